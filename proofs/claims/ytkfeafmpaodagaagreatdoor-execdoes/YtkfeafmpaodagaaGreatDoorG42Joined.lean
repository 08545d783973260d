/- The document's own exec: only, view, put, number. Conditions: at most 900 stores. The document's own exec: put, number. Conditions: at most 900 stores. The document's own exec: gets, stale, meta. Conditions: at most 900 stores; times up to 2^40. The document's own exec: stale, meta. Conditions: at most 900 stores; times up to 2^40. The document's own exec: meta. Conditions: at most 900 stores; times up to 2^40. The document's own exec: won, joins. Conditions: at most 899 stores; times up to 2^40. The document's own exec: joins. Conditions: at most 900 stores; values of at most 3000 bytes. The document's own exec: reckons. Conditions: at most 900 stores; values of at most 3000 bytes. The document's own exec: makes. Conditions: at most 899 stores; times up to 2^40; values of at most 3000 bytes. The document's own exec: Do. Conditions: at most 899 stores; times up to 2^40; values of at most 3000 bytes. The document's own exec: Do, where the CAS is another. Conditions: at most 899 stores; times up to 2^40; values of at most 3000 bytes. The document's own exec: Do, put and joins. Conditions: at most 899 stores; times up to 2^40; values of at most 3000 bytes. The document's own exec: Do, delete, stale and reckons. Conditions: at most 899 stores; times up to 2^40; values of at most 3000 bytes. The document's own exec: Do, whole. Conditions: at most 899 stores; times up to 2^40; values of at most 3000 bytes. -/
import Derived.Test.YtkfeafmpaodagaaGreatDoorG33Joined
import Derived.Test.YtkfeafmpaodagaaGreatDoorG38Joined
import Derived.Test.YtkfeafmpaodagaaGreatDoorG06Joined
import Derived.Test.YtkfeafmpaodagaaGreatDoorG35Joined
import Derived.Test.YtkfeafmpaodagaaGreatDoorG41Joined
namespace Go.Proofs.YtkfeafmpaodagaaGreatDoor
set_option maxHeartbeats 16000000
set_option maxRecDepth 100000
section
set_option linter.unusedVariables false
set_option linter.unusedSimpArgs false
open Go.RowKit Go.Shelf Go.Sort
theorem jCq (s : Int) (w : World) : Calls Tryz.prog 33 #[.int .i64 s] w fun e w' => e = .returned (.agg (rsC (jAh s) none 0)) ∧ w.grownBy w' none:=by
 have hg:=World.grownBy_alloc w (.cells (rsC (jAh s) none 0) 40) none
 go_enter Tryz.func33,Tryz.ntmps33
 go_wp2_with (refine stR_ w.heap.size (jAh s) none 0 rfl _ _ rfl rfl rfl (World.alloc_heap_new w _) ?_;rw [jAq])
 exact jAj rfl (World.alloc_heap_new w _) rfl ⟨rfl,hg⟩
theorem jDn (op : Int) (w : World) : Calls Tryz.prog 14 #[.int .i64 op] w fun e w' => e = .returned (.bool (jCc op)) ∧ w' = w:=by
 by_cases h0 : 0 ≤ op
 ·by_cases h1 : op ≤ 12
  ·have HK : Hid (jCc op = true):=decide_eq_true ⟨h0,h1⟩
   go_enter Tryz.func14,Tryz.ntmps14
   go_wp2
   go_ret
   exact ⟨by rw [HK.out];simp,rfl⟩
  ·have HK : Hid (jCc op = false):=decide_eq_false (by omega)
   have h1' : (12 : Int) < op:=by omega
   go_enter Tryz.func14,Tryz.ntmps14
   go_wp2
   go_ret
   exact ⟨by rw [HK.out];simp,rfl⟩
 ·have HK : Hid (jCc op = false):=decide_eq_false (by omega)
  have h0' : op < 0:=by omega
  go_enter Tryz.func14,Tryz.ntmps14
  go_wp2
  go_ret
  exact ⟨by rw [HK.out];simp,rfl⟩
theorem jTh (w : World) (d : Nat) {o : Oper} {a : Act} {K : Act → World → Prop} {Q : Exit → Act → World → Prop} (hd : o.dst = some d) (s x : Operand) (hop : o.op = .call { callee:=.builtin .append,args:=#[s,x],argTypes:=#[30,30] })
  (base : Nat) (v : Value) (n : Nat) (xs : List Value) (hs : a.eval s = v) (hown : w.ownsRow base 5 1 v n xs) (b : Option Addr) (len cap : Nat) (l : List UInt8) (hx : a.eval x = .slice b len cap) (hl : l.length = len) (hr : Bs w b len cap (jA6 l)) (hn : n + len ≤ 100000000) (hb : base ≤ w.heap.size)
  (h : ∀ v' w',w'.ownsRow base 5 1 v' (n + len) (xs ++ byU l) → w.grownBy w' v.ownBlock → (v'.ownBlock = v.ownBlock ∨ v'.ownBlock = some w.heap.size) → K (a.put (some d) v') w') : Oper.wp Tryz.prog o a w K Q:=by
 obtain ⟨v',w',hr,h2,h3,h5⟩:=jIp w base o.type hown hl hr hn hb
 unfold Oper.wp execOp
 simp only [hop,resolve,invoke,builtin,Sem.run_bind,Sem.run_pure,Result.andThen_ok,List.map_toArray,List.map_cons,List.map_nil,hs,hx,hr]
 show K (a.put o.dst v') w'
 rw [hd]
 exact h v' w' h2 h3 h5
theorem kCd {w : World} {b : Nat} {v : Iv} {a : Option Addr} {c : Nat} (h : HasB b v a c w) : w.rangeAt b 0 (itC (jAe v a c)).toList:=fun j u hu => by
 have hj : j < 10:=(List.getElem?_eq_some_iff.1 hu).1
 obtain ⟨h0,h1,h2,h3,h4,h5,h6,h7,h8,h9⟩:=h
 rw [Nat.zero_add]
 match j,hj with
 | 0,_ => rw [h0];exact hu
 | 1,_ => rw [h1];exact hu
 | 2,_ => rw [h2];exact hu
 | 3,_ => rw [h3];exact hu
 | 4,_ => rw [h4];exact hu
 | 5,_ => rw [h5];exact hu
 | 6,_ => rw [h6];exact hu
 | 7,_ => rw [h7];exact hu
 | 8,_ => rw [h8];exact hu
 | 9,_ => rw [h9];exact hu
section
variable {w0 w : World} {A R : jAd} {r sd n : Nat} {P : Rp} {st : Hs} {i : Iv} {a : Option Addr} {c : Nat} {en : En}
abbrev SW (g : Nat) (i : Iv) (a : Option Addr) (c : Nat) (now : Int) (W : World) : Prop:=HasB g i a c W ∧ W.cell? ⟨g + 1,0,none⟩ = some (.int .i64 now)
theorem SW.of {g k : Nat} {o : Obj} (H : Law w0 w ((jAn k o).and ((jAn (g + 1) (.cells (enC en) 35)).and ((jAn g (.cells (itC (jAe i a c)) 75)).and A)))) : SW g i a c en.now w:=⟨jP4 H.right.right.q.1,(jBx H.right.q.1).1⟩
theorem jHn (H : Law w0 w A) (hv : i.val.length ≤ 3000) (hb : Bs w a i.val.length c (jA6 i.val)) :
  Calls Tryz.prog 76 #[.agg (itC (jAe i a c)),.agg (enC en)] w fun e w' => ∃ a' c',e = .returned (.agg (rsC (jA8 i en) a' c')) ∧ Law w0 w' ((jA5 0 a' c' i.val).and A):=by
 have H1:=((H.box (.cells (itC (jAe i a c)) 75)).box (.cells (enC en) 35)).box (.cells (rsC jAg none 0) 40)
 rw [World.size_alloc,World.size_alloc] at H1
 have hb1:=((hb.alloc (.cells (itC (jAe i a c)) 75)).alloc (.cells (enC en) 35)).alloc (.cells (rsC jAg none 0) 40)
 clear hb H
 go_enter Tryz.func76,Tryz.ntmps76
 go_upto_region 1 with fail
 rw [jAi]
 generalize ((w.alloc (.cells (itC (jAe i a c)) 75)).alloc (.cells (enC en) 35)).alloc (.cells (rsC jAg none 0) 40) = W at *
 have H2:=H1.drew
 have hb2 : Bs W.drew a i.val.length c (jA6 i.val):=hb1.on (jDv ⟨rfl,rfl,rfl,Nat.le_refl _,fun _ _ _ => rfl⟩)
 have hS:=SW.of H2
 clear H1 hb1
 refine jE0 (S:=SW w.heap.size i a c en.now) 14 (by kernel_rfl) (by simp) (by kernel_rfl) ?_
 simp only [List.take_succ_cons,List.take_zero,List.drop_succ_cons,List.drop_zero]
 generalize W.drew = W2 at *
 refine tkA 0 5 (v:=.pointer (some ⟨w.heap.size,1,none⟩)) rfl rfl (by kernel_rfl) (fun _ _ _ h => h) (Or.inl ⟨by rfl,fun W hW => by go_simp⟩) hS ?_
 simp only [Act.put,lyA,lyB,lyC]
 refine tkA 1 6 (v:=.slice a i.val.length c) rfl rfl (by kernel_rfl) (fun _ _ _ h => h) (Or.inl ⟨by rfl,fun W hW => by obtain ⟨⟨b0,b1,b2,b3,b4,b5,b6,b7,b8,b9⟩,n0⟩:=hW;go_simp⟩) hS ?_
 simp only [Act.put,lyA,lyB,lyC]
 refine tkA 3 8 (v:=.pointer (some ⟨w.heap.size,2,none⟩)) rfl rfl (by kernel_rfl) (fun _ _ _ h => h) (Or.inl ⟨by rfl,fun W hW => by go_simp⟩) hS ?_
 simp only [Act.put,lyA,lyB,lyC]
 refine tkA 4 9 (v:=.int .u32 i.fl) rfl rfl (by kernel_rfl) (fun _ _ _ h => h) (Or.inl ⟨by rfl,fun W hW => by obtain ⟨⟨b0,b1,b2,b3,b4,b5,b6,b7,b8,b9⟩,n0⟩:=hW;go_simp⟩) hS ?_
 simp only [Act.put,lyA,lyB,lyC]
 refine tkA 5 10 (v:=.pointer (some ⟨w.heap.size,4,none⟩)) rfl rfl (by kernel_rfl) (fun _ _ _ h => h) (Or.inl ⟨by rfl,fun W hW => by go_simp⟩) hS ?_
 simp only [Act.put,lyA,lyB,lyC]
 refine tkA 6 11 (v:=.int .u64 i.cas) rfl rfl (by kernel_rfl) (fun _ _ _ h => h) (Or.inl ⟨by rfl,fun W hW => by obtain ⟨⟨b0,b1,b2,b3,b4,b5,b6,b7,b8,b9⟩,n0⟩:=hW;go_simp⟩) hS ?_
 simp only [Act.put,lyA,lyB,lyC]
 refine tkA 7 12 (v:=.agg (itC (jAe i a c))) rfl rfl (by kernel_rfl) (fun _ _ _ h => h) (yieldsIf_load_mid (by rfl) 75 _ rfl w.heap.size 0 rfl (itC (jAe i a c)).toList _ (fun W hW => kCd hW.1) Tryz.underlying75 rfl (by rw [jCd (jAe i a c),Array.length_toList])) hS ?_
 simp only [Act.put,lyA,lyB,lyC]
 refine tkA 8 13 (v:=.pointer (some ⟨w.heap.size + 1,0,none⟩)) rfl rfl (by kernel_rfl) (fun _ _ _ h => h) (Or.inl ⟨by rfl,fun W hW => by go_simp⟩) hS ?_
 simp only [Act.put,lyA,lyB,lyC]
 refine tkA 9 14 (v:=.int .i64 en.now) rfl rfl (by kernel_rfl) (fun _ _ _ h => h) (Or.inl ⟨by rfl,fun W hW => by obtain ⟨⟨b0,b1,b2,b3,b4,b5,b6,b7,b8,b9⟩,n0⟩:=hW;go_simp⟩) hS ?_
 simp only [Act.put,lyA,lyB,lyC]
 refine tkA 11 16 (v:=.pointer (some ⟨w.heap.size,7,none⟩)) rfl rfl (by kernel_rfl) (fun _ _ _ h => h) (Or.inl ⟨by rfl,fun W hW => by go_simp⟩) hS ?_
 simp only [Act.put,lyA,lyB,lyC]
 refine tkA 12 17 (v:=.bool i.st) rfl rfl (by kernel_rfl) (fun _ _ _ h => h) (Or.inl ⟨by rfl,fun W hW => by obtain ⟨⟨b0,b1,b2,b3,b4,b5,b6,b7,b8,b9⟩,n0⟩:=hW;go_simp⟩) hS ?_
 simp only [Act.put,lyA,lyB,lyC]
 refine jC8 2 (by kernel_rfl) rfl rfl ?_
 refine jTh _ 7 rfl _ _ rfl 0 (.slice none 0 0) 0 [] rfl (World.ownsRow_nil _ _ _ _) a i.val.length c i.val rfl rfl hb2 (by omega) (Nat.zero_le _) ?_
 intro v1 w1 hown1 hg1 hat1
 rw [Nat.zero_add,List.nil_append] at hown1
 obtain ⟨a1,c1,rfl⟩:=jAr hown1
 have H3:=(H2.nil (n0:=0) (e:=5) (size:=1)).app0 hown1 hg1 hat1
 have S3:=SW.of H3.right
 clear hown1 hg1 hat1 H2 hb2 hS
 refine ⟨S3,?_⟩
 simp only [Act.put,lyA,lyB,lyC]
 refine jC8 10 (by kernel_rfl) rfl rfl ?_
 refine jCe 15 rfl (by go_simp) (kCo (jAe i a c) en.now w1) ?_
 rintro e w2 ⟨rfl,hg2⟩
 refine ⟨_,rfl,?_⟩
 have H4:=H3.step hg2.grown
 have S4:=SW.of H4.right
 clear H3 hg2 S3
 refine ⟨S4,?_⟩
 simp only [Act.put,lyA,lyB,lyC]
 refine tkA 13 18 (v:=.agg (rsC (jA8 i en) a1 c1)) rfl rfl (by kernel_rfl) (fun _ _ _ h => h) (Or.inl ⟨by rfl,fun W hW => by go_simp;rfl⟩) S4 ?_
 simp only [Act.put,lyA,lyB,lyC]
 refine wpAnyH_done (by kernel_rfl) ?_ _
 change wpList _ _ _ _ _ _
 have H5:=H4.rot
 clear H4 S4
 go_wp2_with (refine stR_ (w.heap.size + 1 + 1) (jA8 i en) a1 c1 rfl _ _ rfl rfl rfl H5.q.1 ?_;have H6:=H5.rsRow (jA8 i en) a1 c1)
 exact jAj rfl H6.q.1 rfl ⟨a1,c1,rfl,H6.right.drop2.drop2⟩
end
end
section
set_option linter.unusedVariables false
open Go.RowKit Go.Shelf Go.Sort
section
variable {w0 w : World} {A R : jAd} {r sd n : Nat} {P : Rp} {st : Hs} {i : Iv} {a : Option Addr} {c : Nat} {en : En}
abbrev IP (g : Nat) (i : Iv) (a : Option Addr) (c : Nat) : jAd:=jAn g (.cells (itC (jAe i a c)) 75)
theorem jAc.rsRow {g : Nat} {x : Rv} {kk : Nat} (H : jAc w0 w r sd P st ((jEo g x a kk).and R)) (x' : Rv) (a' : Option Addr) (kk' : Nat) : jAc w0 (w.setRow g (rsC x' a' kk')) r sd P st ((jEo g x' a' kk').and R):=H.setRow (rsC x' a' kk')
theorem jJw (H : jAc w0 w r sd P st R) (hg : jAo n st) (hn : n ≤ 900) (hbud : I64 st.slab.bud) (hen : en.ok) (key : ByteArray) (v : List UInt8) (fl exp : Int) (hk : key.size ≤ 140737488351232) (hv : v.length ≤ 140737488351232) (hx : I64 exp) (hb : ∀ W,Law w0 W R → Bs W a v.length c (jA6 v)) (p : Rv × Hs) (hp : jBb sd st key v fl exp en = p) :
  Calls Tryz.prog 39 #[.pointer (some ⟨r,0,none⟩),.agg (enC en),.string key,.slice a v.length c,.int .u32 fl,.int .i64 exp] w fun e w' => e = .returned (.agg (rsC p.1 none 0)) ∧ ∃ P',jAc w0 w' r sd P' p.2 R:=by
 obtain ⟨x,hxx⟩ : ∃ x,(jBk sd st (jBf key v fl exp en) en).1 = x:=⟨_,rfl⟩
 obtain ⟨T,hT⟩ : ∃ T,(jBk sd st (jBf key v fl exp en) en).2 = T:=⟨_,rfl⟩
 have hr : p = (stR x (jCx en.seq),T):=by rw [← hp];unfold jBb;rw [hxx,hT]
 subst hr
 have HX:=jAa hxx
 have HT:=jAa hT
 have hi : (jBf key v fl exp en).ok:=⟨hk,hv,hx,hen.now,hen.seq⟩
 clear hp hxx hT
 have H0:=(H.box (.cells (enC en) 35)).box (.cells (rsC jAg none 0) 40)
 rw [World.size_alloc] at H0
 clear H
 go_enter Tryz.func39,Tryz.ntmps39
 go_upto_region 1 with fail
 rw [jAi]
 generalize (w.alloc (.cells (enC en) 35)).alloc (.cells (rsC jAg none 0) 40) = W at *
 obtain ⟨n0,n1,n2,n3⟩:=jBx H0.boxAt2
 have H1:=H0.box (.cells (itC (jAe (jBf key v fl exp en) a c)) 75)
 clear H0
 go_upto_region 2 with (refine stI W.heap.size (jAe (jBf key v fl exp en) a c) rfl _ _ rfl rfl rfl (World.alloc_heap_new W _) ?_;rw [jAq])
 clear n0 n1 n2 n3
 obtain ⟨G,hG⟩ : ∃ G,W.heap.size = G:=⟨_,rfl⟩
 generalize W.alloc (.cells (itC (jAe (jBf key v fl exp en) a c)) 75) = X at *
 rw [hG] at H1 ⊢
 clear hG
 have HS:=jAa (fun W' (HW : jAc w0 W' r sd P st ((IP G (jBf key v fl exp en) a c).and ((jAn (w.heap.size + 1) (.cells (rsC jAg none 0) 40)).and ((jAn w.heap.size (.cells (enC en) 35)).and R)))) => kC2 HW hg hn hbud (jBf key v fl exp en) hi a c (fun V h => hb V h.right.right.right) en x T HX.out HT.out)
 have e0 : X.heap[w.heap.size]? = some (.cells (enC en) 35 (0,0)):=H1.less.boxAt2
 have i0 : X.heap[G]? = some (.cells (itC (jAe (jBf key v fl exp en) a c)) 75 (0,0)):=H1.boxAt
 by_cases hx0 : x = 0
 ·subst hx0
  go_wp2_with (first
   | (refine ldI G (jAe (jBf key v fl exp en) a c) rfl _ rfl rfl i0 ?_)
   | (refine ldE w.heap.size en rfl _ rfl rfl e0 ?_)
   | (go_at_call 77;refine (HS.out _ H1).mono ?_;rintro e w3 ⟨rfl,P3,H3⟩;clear H1 HS e0 i0;have c4 : w3.cell? ⟨G,4,none⟩ = some (.int .u64 (jCx en.seq)):=(jAk H3.boxAt).2.2.2.2.1;have H4:=H3.swap)
   | (refine stR_ (w.heap.size + 1) (stR 0 (jCx en.seq)) none 0 rfl _ _ rfl rfl rfl H4.boxAt ?_;have H8:=H4.rsRow (stR 0 (jCx en.seq)) none 0))
  exact jAj rfl H8.boxAt rfl ⟨rfl,P3,H8.less.less.less⟩
 ·have b0:=beq_eq_false_iff_ne.2 hx0
  by_cases hx8 : x = 8
  ·subst hx8
   clear b0
   go_wp2_with (first
    | (refine ldI G (jAe (jBf key v fl exp en) a c) rfl _ rfl rfl i0 ?_)
    | (refine ldE w.heap.size en rfl _ rfl rfl e0 ?_)
    | (go_at_call 77;refine (HS.out _ H1).mono ?_;rintro e w3 ⟨rfl,P3,H3⟩;clear H1 HS e0 i0)
    | (go_at_call 33;refine (jCq 3 _).mono ?_;rintro e w4 ⟨rfl,hgr⟩;have H4:=(H3.step hgr).swap;clear hgr H3)
    | (refine stR_ (w.heap.size + 1) (jAh 3) none 0 rfl _ _ rfl rfl rfl H4.boxAt ?_;have H8:=H4.rsRow (jAh 3) none 0))
   exact jAj rfl H8.boxAt rfl ⟨rfl,P3,H8.less.less.less⟩
  ·have b8:=beq_eq_false_iff_ne.2 hx8
   have hst : stR x (jCx en.seq) = jAh 9:=by unfold stR;rw [if_neg hx0,if_neg hx8]
   have HST:=jAa hst
   clear hx0 hx8 hst
   go_wp2_with (first
    | (refine ldI G (jAe (jBf key v fl exp en) a c) rfl _ rfl rfl i0 ?_)
    | (refine ldE w.heap.size en rfl _ rfl rfl e0 ?_)
    | (go_at_call 77;refine (HS.out _ H1).mono ?_;rintro e w3 ⟨rfl,P3,H3⟩;clear H1 HS e0 i0)
    | (go_at_call 33;refine (jCq 9 _).mono ?_;rintro e w4 ⟨rfl,hgr⟩;have H4:=(H3.step hgr).swap;clear hgr H3)
    | (refine stR_ (w.heap.size + 1) (jAh 9) none 0 rfl _ _ rfl rfl rfl H4.boxAt ?_;have H8:=H4.rsRow (jAh 9) none 0))
   refine jAj rfl H8.boxAt rfl ⟨?_,P3,H8.less.less.less⟩
   show Ending.returned (.agg (rsC (jAh 9) none 0)) = .returned (.agg (rsC (stR x (jCx en.seq)) none 0))
   rw [HST.out]
theorem jKk (p : Rv × Hs) (x : Int) (w : World) : Calls Tryz.prog 72 #[.agg (rsC p.1 none 0),.int .u64 x] w fun e w' => e = .returned (.agg (rsC (jBc p x).1 none 0)) ∧ w.grownBy w' none:=by
 have H0:=((Law.start w).box (.cells (rsC p.1 none 0) 40)).box (.cells (rsC jAg none 0) 40)
 rw [World.size_alloc] at H0
 replace H0:=H0.rot
 have c0:=(jB4 H0.q.1).1
 by_cases hs : p.1.s = 2
 ·rw [jVd p x hs]
  have c5:=(jB4 H0.q.1).2.2.2.2.2.1
  have f0:=H0.rsFree 0
  have f5:=H0.rsFree 5
  have H1:=(H0.rsS 7).rsNum x
  rw [hs] at c0
  clear hs
  go_enter Tryz.func72,Tryz.ntmps72
  go_upto_region 1 with fail
  rw [jAi] at *
  generalize (w.alloc (.cells (rsC p.1 none 0) 40)).alloc (.cells (rsC jAg none 0) 40) = W at *
  go_wp2_with (first
   | (refine ldR w.heap.size _ _ _ rfl _ rfl rfl H1.q.1 ?_;have H6:=H1.rot)
   | (refine stR_ (w.heap.size + 1) { p.1 with s:=7,num:=x } none 0 rfl _ _ rfl rfl rfl H6.q.1 ?_;have H7:=H6.rsRow { p.1 with s:=7,num:=x } none 0))
  exact jAj rfl H7.q.1 rfl ⟨rfl,jB9 H7.below⟩
 ·rw [jSb p x hs]
  have hb:=beq_eq_false_iff_ne.2 hs
  clear hs
  go_enter Tryz.func72,Tryz.ntmps72
  go_upto_region 1 with fail
  rw [jAi] at *
  generalize (w.alloc (.cells (rsC p.1 none 0) 40)).alloc (.cells (rsC jAg none 0) 40) = W at *
  go_wp2_with (first
   | (refine ldR w.heap.size _ _ _ rfl _ rfl rfl H0.q.1 ?_;have H6:=H0.rot)
   | (refine stR_ (w.heap.size + 1) p.1 none 0 rfl _ _ rfl rfl rfl H6.q.1 ?_;have H7:=H6.rsRow p.1 none 0))
  exact jAj rfl H7.q.1 rfl ⟨rfl,jB9 H7.below⟩
end
end
section
set_option linter.unusedVariables false
open Go.RowKit Go.Shelf Go.Sort
theorem kNb {exp now : Int} (he : T40 exp) (hn : N41 now) : atN exp now = atW exp now:=by
 unfold T40 at he
 unfold N41 at hn
 unfold atN atW
 repeat' split
 all_goals first | rfl | (unfold wrap64;omega)
section
variable {w0 w : World} {A R : jAd} {r sd n : Nat} {P : Rp} {st : Hs} {x : Re} {c : Cv} {va : Option Addr} {vc : Nat} {en : En}
def jCo (w0 : World) (r sd : Nat) (R : jAd) (q : Rv × Hs) (e : Ending) (w' : World) : Prop :=
 ∃ a c P',e = .returned (.agg (rsC q.1 a c)) ∧ jAc w0 w' r sd P' q.2 ((jA5 0 a c q.1.val).and R)
theorem jAc.noVal (H : jAc w0 w r sd P st R) : jAc w0 w r sd P st ((jA5 0 none 0 []).and R):=⟨(H.law.nil (n0:=0) (e:=5) (size:=1)).rot,H.ents⟩
theorem jBg {q : Rv × Hs} {P' : Rp} {e : Ending} {w' : World} (he : e = .returned (.agg (rsC q.1 none 0))) (hv : q.1.val = []) (H : jAc w0 w' r sd P' q.2 R) : jCo w0 r sd R q e w':=by
 refine ⟨none,0,P',he,?_⟩
 rw [hv]
 exact H.noVal
theorem jHp (he : T40 c.exp) (hn : N41 en.now) (W : World) : Calls Tryz.prog 40 #[.int .i64 c.exp,.int .i64 en.now] W fun e w' => e = .returned (.int .i64 (atW c.exp en.now)) ∧ w' = W:=by
 rw [← kNb he hn]
 exact kIm c.exp en.now he hn W
theorem kFf {i : Iv} {a : Option Addr} {k : Nat} (y : Int) : (itC (jAe i a k)).setIfInBounds 3 (.int .i64 y) = itC (jAe { i with exp:=y } a k):=by simp [itC,jAe]
theorem kFc {i : Iv} {a : Option Addr} {k : Nat} (y : Int) : (itC (jAe i a k)).setIfInBounds 4 (.int .u64 y) = itC (jAe { i with cas:=y } a k):=by simp [itC,jAe]
theorem kI7 {i : Iv} {a : Option Addr} {k : Nat} (y : Bool) : (itC (jAe i a k)).setIfInBounds 7 (.bool y) = itC (jAe { i with st:=y } a k):=by simp [itC,jAe]
theorem kGb {i : Iv} {a : Option Addr} {k : Nat} (y : Bool) : (itC (jAe i a k)).setIfInBounds 8 (.bool y) = itC (jAe { i with won:=y } a k):=by simp [itC,jAe]
theorem kCn {i : Iv} {a : Option Addr} {k : Nat} (y : Bool) : (itC (jAe i a k)).setIfInBounds 9 (.bool y) = itC (jAe { i with seen:=y } a k):=by simp [itC,jAe]
section
variable {g : Nat} {i : Iv} {a : Option Addr} {k : Nat}
theorem jAc.iExp (H : jAc w0 w r sd P st ((IP g i a k).and R)) (y : Int) : jAc w0 (w.setCell ⟨g,3,none⟩ (.int .i64 y)) r sd P st ((IP g { i with exp:=y } a k).and R):=by
 have h:=H.setAt 3 (.int .i64 y)
 rwa [kFf] at h
theorem jAc.iCas (H : jAc w0 w r sd P st ((IP g i a k).and R)) (y : Int) : jAc w0 (w.setCell ⟨g,4,none⟩ (.int .u64 y)) r sd P st ((IP g { i with cas:=y } a k).and R):=by
 have h:=H.setAt 4 (.int .u64 y)
 rwa [kFc] at h
theorem jAc.iSt (H : jAc w0 w r sd P st ((IP g i a k).and R)) (y : Bool) : jAc w0 (w.setCell ⟨g,7,none⟩ (.bool y)) r sd P st ((IP g { i with st:=y } a k).and R):=by
 have h:=H.setAt 7 (.bool y)
 rwa [kI7] at h
theorem jAc.iWon (H : jAc w0 w r sd P st ((IP g i a k).and R)) (y : Bool) : jAc w0 (w.setCell ⟨g,8,none⟩ (.bool y)) r sd P st ((IP g { i with won:=y } a k).and R):=by
 have h:=H.setAt 8 (.bool y)
 rwa [kGb] at h
theorem jAc.iSeen (H : jAc w0 w r sd P st ((IP g i a k).and R)) (y : Bool) : jAc w0 (w.setCell ⟨g,9,none⟩ (.bool y)) r sd P st ((IP g { i with seen:=y } a k).and R):=by
 have h:=H.setAt 9 (.bool y)
 rwa [kCn] at h
theorem jAc.iFree (H : jAc w0 w r sd P st ((IP g i a k).and R)) (j : Nat) : w.frozen? ⟨g,j,none⟩ = false:=frozen_of_row _ _ _ _ _ H.boxAt
end
theorem jAc.four (H : jAc w0 w r sd P st R) : jAc w0 ((((w.alloc (.cells (cmC c va vc) 33)).alloc (.cells (enC en) 35)).alloc (.cells (itC x.t.it) 75)).alloc (.cells (rsC jAg none 0) 40)) r sd P st ((IP (w.heap.size + 1 + 1) x.t.iv x.t.a x.t.c).and ((jEo (w.heap.size + 1 + 1 + 1) jAg none 0).and ((EnP (w.heap.size + 1) en).and ((CmP w.heap.size c va vc).and R)))):=by
 have h:=(((H.box (.cells (cmC c va vc) 33)).box (.cells (enC en) 35)).box (.cells (itC x.t.it) 75)).box (.cells (rsC jAg none 0) 40)
 rw [World.size_alloc,World.size_alloc,World.size_alloc] at h
 exact h.swap
theorem jAc.b3 {B C D : jAd} {k : Nat} {o : Obj} (H : jAc w0 w r sd P st (B.and (C.and ((jAn k o).and D)))) : w.heap[k]? = some o:=H.law.q.2.1.2.1.2.1.1
theorem jAc.b4 {B C D E : jAd} {k : Nat} {o : Obj} (H : jAc w0 w r sd P st (B.and (C.and (D.and ((jAn k o).and E))))) : w.heap[k]? = some o:=H.law.q.2.1.2.1.2.1.2.1.1
theorem jT6 {i j : Iv} (hk : i.key = j.key) (hv : i.val = j.val) (hj : j.ok) (he : I64 i.exp) (hs : i.sec = j.sec) (hq : i.seq = j.seq) : i.ok:=⟨by rw [hk];exact hj.key,by rw [hv];exact hj.val,he,by rw [hs];exact hj.sec,by rw [hq];exact hj.seq⟩
theorem jT5 (H : jAc w0 w r sd P st R) (hg : jAo n st) (hn : n ≤ 900) (hx : x ∈ P.es) (j : Iv) (hj : j.ok) (hv : j.val = x.t.iv.val) (hlen : x.t.iv.val.length = j.val.length) :
  Calls Tryz.prog 75 #[.pointer (some ⟨r,0,none⟩),.agg (itC (jAe j x.t.a x.t.c))] w fun e w' => (∃ v,e = .returned v) ∧ (∃ P',jAc w0 w' r sd P' (jBa st j) R) ∧ Bs w' x.t.a j.val.length x.t.c (jA6 j.val):=by
 have hb : Bs w x.t.a j.val.length x.t.c (jA6 j.val):=by rw [hv];exact H.tales x hx
 refine (jQm H hg hn j hj x.t.a x.t.c (fun W hB => hb.on hB) _ _ rfl rfl).mono ?_
 rintro e w' ⟨h1,h2,h3⟩
 refine ⟨⟨_,h1⟩,h2,?_⟩
 rw [hv]
 exact h3 x hx
theorem kHn (H : jAc w0 w r sd P st R) (hg : jAo n st) (hn : n ≤ 900) (hx : x ∈ P.es) (hi : x.t.iv.ok) (hv : x.t.iv.val.length ≤ 3000) (hen : en.ok) (he : T40 c.exp) (hno : N41 en.now) (hc : I64 c.exp) (hop : c.op = 0 ∨ c.op = 1 ∨ c.op = 2) :
  Calls Tryz.prog 37 #[.pointer (some ⟨r,0,none⟩),.agg (cmC c va vc),.agg (enC en),.agg (itC x.t.it)] w (jCo w0 r sd R (jC3 sd st c en x.t.iv)):=by
 have hat:=jCm hc hen.now
 have HA:=jAa (fun W => jHp he hno W)
 have H0:=H.four (x:=x) (c:=c) (va:=va) (vc:=vc) (en:=en)
 have hok : (jEd c en x.t.iv).ok:=jT6 (j:=x.t.iv) rfl rfl hi (by show I64 (if c.op = 0 then x.t.iv.exp else atW c.exp en.now);split;exact hi.exp;exact hat) rfl rfl
 have HU:=jAa (fun W (R' : jAd) (HW : jAc w0 W r sd P st R') => jT5 HW hg hn hx (jEd c en x.t.iv) hok rfl rfl)
 clear H
 rcases hop with hop | hop | hop
 ·have hr : jC3 sd st c en x.t.iv = (jA8 (jEd c en x.t.iv) en,jBa st (jEd c en x.t.iv)):=by unfold jC3;rw [if_pos (.inl hop)]
  rw [hr]
  have hgi : jEd c en x.t.iv = { x.t.iv with seen:=true }:=by unfold jEd;rw [hop];rfl
  rw [hgi] at HU ⊢
  clear hr hgi hok
  go_enter Tryz.func37,Tryz.ntmps37
  go_upto_region 1 with fail
  rw [jAi]
  generalize (((w.alloc (.cells (cmC c va vc) 33)).alloc (.cells (enC en) 35)).alloc (.cells (itC x.t.it) 75)).alloc (.cells (rsC jAg none 0) 40) = W at *
  have d0:=(jAf H0.b4).1
  rw [hop] at d0
  have f9:=H0.iFree 9
  have i9:=(jAk H0.boxAt).2.2.2.2.2.2.2.2.2
  have H1:=H0.iSeen true
  clear H0
  go_upto_region 5 with fail
  clear f9 i9 d0
  generalize W.setCell ⟨w.heap.size + 1 + 1,9,none⟩ (.bool true) = W1 at *
  go_wp2_with (first
   | (refine ldI (w.heap.size + 1 + 1) (jAe { x.t.iv with seen:=true } x.t.a x.t.c) rfl _ rfl rfl H1.boxAt ?_)
   | (go_at_call 75;refine (HU.out _ _ H1).mono ?_;rintro e w2 ⟨⟨v2,rfl⟩,⟨P2,H2⟩,hb2⟩;have d2:=(jAf H2.b4).1;rw [hop] at d2;clear H1 HU;have e2:=H2.b3;have i2:=H2.boxAt)
   | (refine ldI (w.heap.size + 1 + 1) (jAe { x.t.iv with seen:=true } x.t.a x.t.c) rfl _ rfl rfl i2 ?_)
   | (refine ldE (w.heap.size + 1) en rfl _ rfl rfl e2 ?_)
   | (go_at_call 76;refine (jHn (i:={ x.t.iv with seen:=true }) (a:=x.t.a) (c:=x.t.c) (en:=en) H2.law hv hb2).mono ?_;rintro e w3 ⟨a3,c3,rfl,N3⟩;have H3 : jAc w0 w3 r sd P2 _ _:=⟨N3.rot,H2.ents⟩;clear N3 e2 i2 d2 H2;have H4:=H3.swap.less.swap)
   | (refine stR_ (w.heap.size + 1 + 1 + 1) (jA8 { x.t.iv with seen:=true } en) a3 c3 rfl _ _ rfl rfl rfl H4.boxAt ?_;have H8:=H4.rsRow (jA8 { x.t.iv with seen:=true } en) a3 c3))
  exact jAj rfl H8.boxAt rfl ⟨a3,c3,P2,rfl,H8.less.swap.less.swap.less⟩
 ·have hr : jC3 sd st c en x.t.iv = (jA8 (jEd c en x.t.iv) en,jBa st (jEd c en x.t.iv)):=by unfold jC3;rw [if_pos (.inr hop)]
  rw [hr]
  have hgi : jEd c en x.t.iv = { x.t.iv with exp:=atW c.exp en.now,seen:=true }:=by unfold jEd;rw [hop];rfl
  rw [hgi] at HU ⊢
  clear hr hgi hok
  go_enter Tryz.func37,Tryz.ntmps37
  go_upto_region 1 with fail
  rw [jAi]
  generalize (((w.alloc (.cells (cmC c va vc) 33)).alloc (.cells (enC en) 35)).alloc (.cells (itC x.t.it) 75)).alloc (.cells (rsC jAg none 0) 40) = W at *
  have d0:=(jAf H0.b4).1
  rw [hop] at d0
  have d4:=(jAf H0.b4).2.2.2.2.1
  have n0:=(jBx H0.b3).1
  have f3:=H0.iFree 3
  have i3:=(jAk H0.boxAt).2.2.2.1
  have HX:=H0.iExp (atW c.exp en.now)
  have f9:=HX.iFree 9
  have i9:=(jAk HX.boxAt).2.2.2.2.2.2.2.2.2
  have d0':=(jAf HX.b4).1
  rw [hop] at d0'
  have H1:=HX.iSeen true
  clear H0 HX
  go_upto_region 5 with (go_at_call 40;refine (HA.out _).mono ?_;rintro e w1 ⟨rfl,rfl⟩)
  clear f9 i9 d0 d0' f3 i3 d4 n0
  generalize (w1.setCell ⟨w.heap.size + 1 + 1,3,none⟩ (.int .i64 (atW c.exp en.now))).setCell ⟨w.heap.size + 1 + 1,9,none⟩ (.bool true) = W1 at *
  go_wp2_with (first
   | (refine ldI (w.heap.size + 1 + 1) (jAe { x.t.iv with exp:=atW c.exp en.now,seen:=true } x.t.a x.t.c) rfl _ rfl rfl H1.boxAt ?_)
   | (go_at_call 75;refine (HU.out _ _ H1).mono ?_;rintro e w2 ⟨⟨v2,rfl⟩,⟨P2,H2⟩,hb2⟩;have d2:=(jAf H2.b4).1;rw [hop] at d2;clear H1 HU;have e2:=H2.b3;have i2:=H2.boxAt)
   | (refine ldI (w.heap.size + 1 + 1) (jAe { x.t.iv with exp:=atW c.exp en.now,seen:=true } x.t.a x.t.c) rfl _ rfl rfl i2 ?_)
   | (refine ldE (w.heap.size + 1) en rfl _ rfl rfl e2 ?_)
   | (go_at_call 76;refine (jHn (i:={ x.t.iv with exp:=atW c.exp en.now,seen:=true }) (a:=x.t.a) (c:=x.t.c) (en:=en) H2.law hv hb2).mono ?_;rintro e w3 ⟨a3,c3,rfl,N3⟩;have H3 : jAc w0 w3 r sd P2 _ _:=⟨N3.rot,H2.ents⟩;clear N3 e2 i2 d2 H2;have H4:=H3.swap.less.swap)
   | (refine stR_ (w.heap.size + 1 + 1 + 1) (jA8 { x.t.iv with exp:=atW c.exp en.now,seen:=true } en) a3 c3 rfl _ _ rfl rfl rfl H4.boxAt ?_;have H8:=H4.rsRow (jA8 { x.t.iv with exp:=atW c.exp en.now,seen:=true } en) a3 c3))
  exact jAj rfl H8.boxAt rfl ⟨a3,c3,P2,rfl,H8.less.swap.less.swap.less⟩
 ·have hr : jC3 sd st c en x.t.iv = (jAh 6,jBa st (jEd c en x.t.iv)):=by unfold jC3;rw [if_neg (by omega),if_pos hop]
  rw [hr]
  have hgi : jEd c en x.t.iv = { x.t.iv with exp:=atW c.exp en.now }:=by unfold jEd;rw [hop];rfl
  rw [hgi] at HU ⊢
  clear hr hgi hok
  go_enter Tryz.func37,Tryz.ntmps37
  go_upto_region 1 with fail
  rw [jAi]
  generalize (((w.alloc (.cells (cmC c va vc) 33)).alloc (.cells (enC en) 35)).alloc (.cells (itC x.t.it) 75)).alloc (.cells (rsC jAg none 0) 40) = W at *
  have d0:=(jAf H0.b4).1
  rw [hop] at d0
  have d4:=(jAf H0.b4).2.2.2.2.1
  have n0:=(jBx H0.b3).1
  have f3:=H0.iFree 3
  have i3:=(jAk H0.boxAt).2.2.2.1
  have H1:=H0.iExp (atW c.exp en.now)
  have d0':=(jAf H1.b4).1
  rw [hop] at d0'
  clear H0
  go_upto_region 5 with (go_at_call 40;refine (HA.out _).mono ?_;rintro e w1 ⟨rfl,rfl⟩)
  clear d0 d0' f3 i3 d4 n0
  generalize w1.setCell ⟨w.heap.size + 1 + 1,3,none⟩ (.int .i64 (atW c.exp en.now)) = W1 at *
  go_wp2_with (first
   | (refine ldI (w.heap.size + 1 + 1) (jAe { x.t.iv with exp:=atW c.exp en.now } x.t.a x.t.c) rfl _ rfl rfl H1.boxAt ?_)
   | (go_at_call 75;refine (HU.out _ _ H1).mono ?_;rintro e w2 ⟨⟨v2,rfl⟩,⟨P2,H2⟩,hb2⟩;have d2:=(jAf H2.b4).1;rw [hop] at d2;clear H1 HU;have e2:=H2.b3;have i2:=H2.boxAt)
   | (go_at_call 33;refine (jCq 6 _).mono ?_;rintro e w3 ⟨rfl,hgr⟩;have H4:=(H2.step hgr).swap;clear hgr e2 i2 d2 H2)
   | (refine stR_ (w.heap.size + 1 + 1 + 1) (jAh 6) none 0 rfl _ _ rfl rfl rfl H4.boxAt ?_;have H8:=H4.rsRow (jAh 6) none 0))
  exact jAj rfl H8.boxAt rfl (jBg rfl rfl H8.less.less.less.less)
end
end
section
set_option linter.unusedVariables false
open Go.RowKit Go.Shelf Go.Sort
section
variable {w0 w : World} {A R : jAd} {r sd n : Nat} {P : Rp} {st : Hs} {x : Re} {c : Cv} {va : Option Addr} {vc : Nat} {en : En}
theorem kD1 (H : jAc w0 w r sd P st R) (hg : jAo n st) (hn : n ≤ 900) (hx : x ∈ P.es) (hi : x.t.iv.ok) (hen : en.ok) (he : T40 c.exp) (hno : N41 en.now) (hc : I64 c.exp) :
  Calls Tryz.prog 43 #[.pointer (some ⟨r,0,none⟩),.agg (cmC c va vc),.agg (enC en),.agg (itC x.t.it)] w (jCo w0 r sd R (jAh 5,jBa st (jDy c en x.t.iv))):=by
 have hat:=jCm hc hen.now
 have HA:=jAa (fun W => jHp he hno W)
 have H0:=H.four (x:=x) (c:=c) (va:=va) (vc:=vc) (en:=en)
 have hok : (jDy c en x.t.iv).ok:=jT6 (j:=x.t.iv) rfl rfl hi (by show I64 (if c.sets then atW c.exp en.now else x.t.iv.exp);split;exact hat;exact hi.exp) rfl rfl
 have HU:=jAa (fun W (R' : jAd) (HW : jAc w0 W r sd P st R') => jT5 HW hg hn hx (jDy c en x.t.iv) hok rfl rfl)
 have hsq:=hen.seq
 unfold U64 at hsq
 clear H
 cases hs : c.sets with
 | false =>
  have hgi : jDy c en x.t.iv = { x.t.iv with st:=true,won:=false,cas:=jCx en.seq }:=by unfold jDy;rw [hs];rfl
  rw [hgi] at HU ⊢
  clear hgi hok
  go_enter Tryz.func43,Tryz.ntmps43
  go_upto_region 1 with fail
  rw [jAi]
  generalize (((w.alloc (.cells (cmC c va vc) 33)).alloc (.cells (enC en) 35)).alloc (.cells (itC x.t.it) 75)).alloc (.cells (rsC jAg none 0) 40) = W at *
  have f7:=H0.iFree 7
  have i7:=(jAk H0.boxAt).2.2.2.2.2.2.2.1
  have H1:=H0.iSt true
  have f8:=H1.iFree 8
  have i8:=(jAk H1.boxAt).2.2.2.2.2.2.2.2.1
  have H2:=H1.iWon false
  have n1:=(jBx H2.b3).2.1
  have f4:=H2.iFree 4
  have i4:=(jAk H2.boxAt).2.2.2.2.1
  have H3:=H2.iCas (IntKind.u64.wrap (en.seq + 1))
  have d9:=(jAf H3.b4).2.2.2.2.2.2.2.2.2
  rw [hs] at d9
  clear H0 H1 H2
  go_upto_region 4 with fail
  generalize ((W.setCell ⟨w.heap.size + 1 + 1,7,none⟩ (.bool true)).setCell ⟨w.heap.size + 1 + 1,8,none⟩ (.bool false)).setCell ⟨w.heap.size + 1 + 1,4,none⟩ (.int .u64 (IntKind.u64.wrap (en.seq + 1))) = W3 at *
  clear f7 i7 f8 i8 n1 f4 i4
  go_upto_region 6 with fail
  clear d9
  have H5 : jAc w0 W3 r sd P st ((IP (w.heap.size + 1 + 1) { x.t.iv with st:=true,won:=false,cas:=jCx en.seq } x.t.a x.t.c).and ((jEo (w.heap.size + 1 + 1 + 1) jAg none 0).and ((EnP (w.heap.size + 1) en).and ((CmP w.heap.size c va vc).and R)))):=H3
  clear H3
  go_wp2_with (first
   | (refine ldI (w.heap.size + 1 + 1) (jAe { x.t.iv with st:=true,won:=false,cas:=jCx en.seq } x.t.a x.t.c) rfl _ rfl rfl H5.boxAt ?_)
   | (go_at_call 75;refine (HU.out _ _ H5).mono ?_;rintro e w2 ⟨⟨v2,rfl⟩,⟨P2,H6⟩,hb2⟩;clear H5 HU)
   | (go_at_call 33;refine (jCq 5 _).mono ?_;rintro e w3 ⟨rfl,hgr⟩;have H7:=(H6.step hgr).swap;clear hgr H6)
   | (refine stR_ (w.heap.size + 1 + 1 + 1) (jAh 5) none 0 rfl _ _ rfl rfl rfl H7.boxAt ?_;have H8:=H7.rsRow (jAh 5) none 0))
  exact jAj rfl H8.boxAt rfl (jBg rfl rfl H8.less.less.less.less)
 | true =>
  have hgi : jDy c en x.t.iv = { x.t.iv with st:=true,won:=false,cas:=jCx en.seq,exp:=atW c.exp en.now }:=by unfold jDy;rw [hs];rfl
  rw [hgi] at HU ⊢
  clear hgi hok
  go_enter Tryz.func43,Tryz.ntmps43
  go_upto_region 1 with fail
  rw [jAi]
  generalize (((w.alloc (.cells (cmC c va vc) 33)).alloc (.cells (enC en) 35)).alloc (.cells (itC x.t.it) 75)).alloc (.cells (rsC jAg none 0) 40) = W at *
  have f7:=H0.iFree 7
  have i7:=(jAk H0.boxAt).2.2.2.2.2.2.2.1
  have H1:=H0.iSt true
  have f8:=H1.iFree 8
  have i8:=(jAk H1.boxAt).2.2.2.2.2.2.2.2.1
  have H2:=H1.iWon false
  have n1:=(jBx H2.b3).2.1
  have f4:=H2.iFree 4
  have i4:=(jAk H2.boxAt).2.2.2.2.1
  have H3:=H2.iCas (IntKind.u64.wrap (en.seq + 1))
  have d9:=(jAf H3.b4).2.2.2.2.2.2.2.2.2
  rw [hs] at d9
  have d4:=(jAf H3.b4).2.2.2.2.1
  have n0:=(jBx H3.b3).1
  have f3:=H3.iFree 3
  have i3:=(jAk H3.boxAt).2.2.2.1
  have H4:=H3.iExp (atW c.exp en.now)
  clear H0 H1 H2 H3
  go_upto_region 4 with fail
  generalize ((W.setCell ⟨w.heap.size + 1 + 1,7,none⟩ (.bool true)).setCell ⟨w.heap.size + 1 + 1,8,none⟩ (.bool false)).setCell ⟨w.heap.size + 1 + 1,4,none⟩ (.int .u64 (IntKind.u64.wrap (en.seq + 1))) = V3 at *
  clear f7 i7 f8 i8 n1 f4 i4
  go_upto_region 6 with (go_at_call 40;refine (HA.out _).mono ?_;rintro e w1 ⟨rfl,rfl⟩)
  clear d9 d4 n0 f3 i3
  generalize w1.setCell ⟨w.heap.size + 1 + 1,3,none⟩ (.int .i64 (atW c.exp en.now)) = W3 at *
  have H5 : jAc w0 W3 r sd P st ((IP (w.heap.size + 1 + 1) { x.t.iv with st:=true,won:=false,cas:=jCx en.seq,exp:=atW c.exp en.now } x.t.a x.t.c).and ((jEo (w.heap.size + 1 + 1 + 1) jAg none 0).and ((EnP (w.heap.size + 1) en).and ((CmP w.heap.size c va vc).and R)))):=H4
  clear H4
  go_wp2_with (first
   | (refine ldI (w.heap.size + 1 + 1) (jAe { x.t.iv with st:=true,won:=false,cas:=jCx en.seq,exp:=atW c.exp en.now } x.t.a x.t.c) rfl _ rfl rfl H5.boxAt ?_)
   | (go_at_call 75;refine (HU.out _ _ H5).mono ?_;rintro e w2 ⟨⟨v2,rfl⟩,⟨P2,H6⟩,hb2⟩;clear H5 HU)
   | (go_at_call 33;refine (jCq 5 _).mono ?_;rintro e w3 ⟨rfl,hgr⟩;have H7:=(H6.step hgr).swap;clear hgr H6)
   | (refine stR_ (w.heap.size + 1 + 1 + 1) (jAh 5) none 0 rfl _ _ rfl rfl rfl H7.boxAt ?_;have H8:=H7.rsRow (jAh 5) none 0))
  exact jAj rfl H8.boxAt rfl (jBg rfl rfl H8.less.less.less.less)
end
end
section
set_option linter.unusedVariables false
open Go.RowKit Go.Shelf Go.Sort
section
variable {w0 w : World} {A R : jAd} {r sd n : Nat} {P : Rp} {st : Hs} {x : Re} {c : Cv} {va : Option Addr} {vc : Nat} {en : En}
theorem jAc.rLost {g : Nat} {y : Rv} {a : Option Addr} {kk : Nat} (H : jAc w0 w r sd P st ((jEo g y a kk).and R)) (b : Bool) : jAc w0 (w.setCell ⟨g,8,none⟩ (.bool b)) r sd P st ((jEo g { y with lost:=b } a kk).and R):=by
 have h:=H.setAt 8 (.bool b)
 rwa [jTd] at h
theorem jAc.rWon {g : Nat} {y : Rv} {a : Option Addr} {kk : Nat} (H : jAc w0 w r sd P st ((jEo g y a kk).and R)) (b : Bool) : jAc w0 (w.setCell ⟨g,7,none⟩ (.bool b)) r sd P st ((jEo g { y with won:=b } a kk).and R):=by
 have h:=H.setAt 7 (.bool b)
 rwa [jVj] at h
theorem jAc.rFree {g : Nat} {y : Rv} {a : Option Addr} {kk : Nat} (H : jAc w0 w r sd P st ((jEo g y a kk).and R)) (j : Nat) : w.frozen? ⟨g,j,none⟩ = false:=frozen_of_row _ _ _ _ _ H.boxAt
theorem jAc.fourI {i : Iv} {ia : Option Addr} {ic : Nat} (H : jAc w0 w r sd P st R) : jAc w0 ((((w.alloc (.cells (cmC c va vc) 33)).alloc (.cells (enC en) 35)).alloc (.cells (itC (jAe i ia ic)) 75)).alloc (.cells (rsC jAg none 0) 40)) r sd P st ((IP (w.heap.size + 1 + 1) i ia ic).and ((jEo (w.heap.size + 1 + 1 + 1) jAg none 0).and ((EnP (w.heap.size + 1) en).and ((CmP w.heap.size c va vc).and R)))):=by
 have h:=(((H.box (.cells (cmC c va vc) 33)).box (.cells (enC en) 35)).box (.cells (itC (jAe i ia ic)) 75)).box (.cells (rsC jAg none 0) 40)
 rw [World.size_alloc,World.size_alloc,World.size_alloc] at h
 exact h.swap
theorem kEe (H : jAc w0 w r sd P st R) (key : ByteArray) (val : List UInt8) (fl exp cas sec seq : Int) (stt seen : Bool) (ia : Option Addr) (ic : Nat) (ex : Int) (T : Hs) (HA : Hid (∀ W,Calls Tryz.prog 40 #[.int .i64 c.exp,.int .i64 en.now] W fun e w' => e = .returned (.int .i64 (atW c.exp en.now)) ∧ w' = W))
  (hv : val.length ≤ 3000) (hex : (if c.sets then atW c.exp en.now else exp) = ex) (HB : Hid (∀ W (R' : jAd),jAc w0 W r sd P st R' → Bs W ia val.length ic (jA6 val)))
  (HU : Hid (∀ W (R' : jAd),jAc w0 W r sd P st R' → Calls Tryz.prog 75 #[.pointer (some ⟨r,0,none⟩),.agg (itC (jAe ⟨key,val,fl,ex,cas,sec,seq,stt,stt,true⟩ ia ic))] W fun e w' => (∃ v,e = .returned v) ∧ ∃ P',jAc w0 w' r sd P' T R')) :
  Calls Tryz.prog 38 #[.pointer (some ⟨r,0,none⟩),.agg (cmC c va vc),.agg (enC en),.agg (itC (jAe ⟨key,val,fl,exp,cas,sec,seq,stt,false,seen⟩ ia ic))] w (jCo w0 r sd R (⟨0,val,fl,cas,jCv ex en.now,0,stt,stt,false⟩,T)):=by
 have H0:=H.fourI (i:=⟨key,val,fl,exp,cas,sec,seq,stt,false,seen⟩) (ia:=ia) (ic:=ic) (c:=c) (va:=va) (vc:=vc) (en:=en)
 clear H
 go_enter Tryz.func38,Tryz.ntmps38
 go_upto_region 1 with fail
 rw [jAi]
 generalize (((w.alloc (.cells (cmC c va vc) 33)).alloc (.cells (enC en) 35)).alloc (.cells (itC (jAe ⟨key,val,fl,exp,cas,sec,seq,stt,false,seen⟩ ia ic)) 75)).alloc (.cells (rsC jAg none 0) 40) = W at *
 have d9:=(jAf H0.b4).2.2.2.2.2.2.2.2.2
 cases hs : c.sets with
 | false =>
  obtain rfl : exp = ex:=by rw [← hex,hs];rfl
  rw [hs] at d9
  have f0:=H0.iFree 9
  have i0:=(jAk H0.boxAt).2.2.2.2.2.2.2.2.2
  have H3:=H0.iSeen true
  clear H0
  go_upto_region 4 with fail
  clear d9 f0 i0 hex
  generalize W.setCell ⟨w.heap.size + 1 + 1,9,none⟩ (.bool true) = V3 at *
  go_upto_region 5 with (first
   | (refine ldI (w.heap.size + 1 + 1) (jAe ⟨key,val,fl,exp,cas,sec,seq,stt,false,true⟩ ia ic) rfl _ rfl rfl H3.boxAt ?_)
   | (refine ldE (w.heap.size + 1) en rfl _ rfl rfl H3.b3 ?_)
   | (go_at_call 76;refine (jHn (i:=⟨key,val,fl,exp,cas,sec,seq,stt,false,true⟩) (a:=ia) (c:=ic) (en:=en) H3.law hv (HB.out _ _ H3)).mono ?_;rintro e w4 ⟨a4,c4,rfl,N4⟩;have H4 : jAc w0 w4 r sd P st _:=⟨N4.rot,H3.ents⟩;clear N4 H3;have H5:=H4.swap.box (.cells (rsC ⟨0,val,fl,cas,jCv exp en.now,0,stt,false,false⟩ a4 c4) 40);clear H4)
   | (refine stR_ w4.heap.size ⟨0,val,fl,cas,jCv exp en.now,0,stt,false,false⟩ a4 c4 rfl _ _ rfl rfl rfl (World.alloc_heap_new w4 _) ?_;rw [jAq];generalize w4.alloc (.cells (rsC ⟨0,val,fl,cas,jCv exp en.now,0,stt,false,false⟩ a4 c4) 40) = W5 at *))
  obtain ⟨gv,hgv⟩ : ∃ gv,w4.heap.size = gv:=⟨_,rfl⟩
  rw [hgv] at H5 ⊢
  clear hgv HB
  have q5 : W5.cell? ⟨w.heap.size + 1 + 1,8,none⟩ = some (.bool false):=(jAk H5.boxAt2).2.2.2.2.2.2.2.2.1
  have f8:=H5.rFree 8
  have z8 : W5.cell? ⟨gv,8,none⟩ = some (.bool false):=(jB4 H5.boxAt).2.2.2.2.2.2.2.2
  have H6:=H5.rLost false
  go_upto_region 6 with fail
  generalize W5.setCell ⟨gv,8,none⟩ (.bool false) = W6 at *
  clear q5 f8 z8 H5
  have q6 : W6.cell? ⟨w.heap.size + 1 + 1,8,none⟩ = some (.bool false):=(jAk H6.boxAt2).2.2.2.2.2.2.2.2.1
  have s6 : W6.cell? ⟨w.heap.size + 1 + 1,7,none⟩ = some (.bool stt):=(jAk H6.boxAt2).2.2.2.2.2.2.2.1
  have f7:=H6.rFree 7
  have z7 : W6.cell? ⟨gv,7,none⟩ = some (.bool false):=(jB4 H6.boxAt).2.2.2.2.2.2.2.1
  have H7:=H6.rWon stt
  go_upto_region 7 with fail
  generalize W6.setCell ⟨gv,7,none⟩ (.bool stt) = W7 at *
  clear q6 s6 f7 z7 H6
  have q7 : W7.cell? ⟨w.heap.size + 1 + 1,8,none⟩ = some (.bool false):=(jAk H7.boxAt2).2.2.2.2.2.2.2.2.1
  have s7 : W7.cell? ⟨w.heap.size + 1 + 1,7,none⟩ = some (.bool stt):=(jAk H7.boxAt2).2.2.2.2.2.2.2.1
  have H7s:=H7.swap
  have f9:=H7s.iFree 8
  have H8:=H7s.iWon stt
  clear H7 H7s
  go_upto_region 8 with fail
  generalize W7.setCell ⟨w.heap.size + 1 + 1,8,none⟩ (.bool stt) = W8 at *
  clear q7 s7 f9
  go_wp2_with (first
   | (refine ldI (w.heap.size + 1 + 1) (jAe ⟨key,val,fl,exp,cas,sec,seq,stt,stt,true⟩ ia ic) rfl _ rfl rfl H8.boxAt ?_)
   | (go_at_call 75;refine (HU.out _ _ H8).mono ?_;rintro e w9 ⟨⟨v9,rfl⟩,P9,H9⟩;clear H8 HU;have H10:=H9.less;clear H9;have r10:=H10.boxAt;have H11:=H10.less.swap)
   | (refine ldR gv ⟨0,val,fl,cas,jCv exp en.now,0,stt,stt,false⟩ a4 c4 rfl _ rfl rfl r10 ?_)
   | (refine stR_ (w.heap.size + 1 + 1 + 1) ⟨0,val,fl,cas,jCv exp en.now,0,stt,stt,false⟩ a4 c4 rfl _ _ rfl rfl rfl H11.boxAt ?_;have H12:=H11.rsRow ⟨0,val,fl,cas,jCv exp en.now,0,stt,stt,false⟩ a4 c4))
  exact jAj rfl H12.boxAt rfl ⟨a4,c4,P9,rfl,H12.less.swap.less.swap.less⟩
 | true =>
  obtain rfl : atW c.exp en.now = ex:=by rw [← hex,hs];rfl
  rw [hs] at d9
  have d4:=(jAf H0.b4).2.2.2.2.1
  have n0:=(jBx H0.b3).1
  have f3:=H0.iFree 3
  have i3:=(jAk H0.boxAt).2.2.2.1
  have H2:=H0.iExp (atW c.exp en.now)
  have f0:=H2.iFree 9
  have i0:=(jAk H2.boxAt).2.2.2.2.2.2.2.2.2
  have H3:=H2.iSeen true
  clear H0 H2
  go_upto_region 4 with (go_at_call 40;refine (HA.out _).mono ?_;rintro e w1 ⟨rfl,rfl⟩)
  clear d9 f0 i0 hex d4 n0 f3 i3
  generalize (w1.setCell ⟨w.heap.size + 1 + 1,3,none⟩ (.int .i64 (atW c.exp en.now))).setCell ⟨w.heap.size + 1 + 1,9,none⟩ (.bool true) = V3 at *
  go_upto_region 5 with (first
   | (refine ldI (w.heap.size + 1 + 1) (jAe ⟨key,val,fl,atW c.exp en.now,cas,sec,seq,stt,false,true⟩ ia ic) rfl _ rfl rfl H3.boxAt ?_)
   | (refine ldE (w.heap.size + 1) en rfl _ rfl rfl H3.b3 ?_)
   | (go_at_call 76;refine (jHn (i:=⟨key,val,fl,atW c.exp en.now,cas,sec,seq,stt,false,true⟩) (a:=ia) (c:=ic) (en:=en) H3.law hv (HB.out _ _ H3)).mono ?_;rintro e w4 ⟨a4,c4,rfl,N4⟩;have H4 : jAc w0 w4 r sd P st _:=⟨N4.rot,H3.ents⟩;clear N4 H3;have H5:=H4.swap.box (.cells (rsC ⟨0,val,fl,cas,jCv (atW c.exp en.now) en.now,0,stt,false,false⟩ a4 c4) 40);clear H4)
   | (refine stR_ w4.heap.size ⟨0,val,fl,cas,jCv (atW c.exp en.now) en.now,0,stt,false,false⟩ a4 c4 rfl _ _ rfl rfl rfl (World.alloc_heap_new w4 _) ?_;rw [jAq];generalize w4.alloc (.cells (rsC ⟨0,val,fl,cas,jCv (atW c.exp en.now) en.now,0,stt,false,false⟩ a4 c4) 40) = W5 at *))
  obtain ⟨gv,hgv⟩ : ∃ gv,w4.heap.size = gv:=⟨_,rfl⟩
  rw [hgv] at H5 ⊢
  clear hgv HB
  have q5 : W5.cell? ⟨w.heap.size + 1 + 1,8,none⟩ = some (.bool false):=(jAk H5.boxAt2).2.2.2.2.2.2.2.2.1
  have f8:=H5.rFree 8
  have z8 : W5.cell? ⟨gv,8,none⟩ = some (.bool false):=(jB4 H5.boxAt).2.2.2.2.2.2.2.2
  have H6:=H5.rLost false
  go_upto_region 6 with fail
  generalize W5.setCell ⟨gv,8,none⟩ (.bool false) = W6 at *
  clear q5 f8 z8 H5
  have q6 : W6.cell? ⟨w.heap.size + 1 + 1,8,none⟩ = some (.bool false):=(jAk H6.boxAt2).2.2.2.2.2.2.2.2.1
  have s6 : W6.cell? ⟨w.heap.size + 1 + 1,7,none⟩ = some (.bool stt):=(jAk H6.boxAt2).2.2.2.2.2.2.2.1
  have f7:=H6.rFree 7
  have z7 : W6.cell? ⟨gv,7,none⟩ = some (.bool false):=(jB4 H6.boxAt).2.2.2.2.2.2.2.1
  have H7:=H6.rWon stt
  go_upto_region 7 with fail
  generalize W6.setCell ⟨gv,7,none⟩ (.bool stt) = W7 at *
  clear q6 s6 f7 z7 H6
  have q7 : W7.cell? ⟨w.heap.size + 1 + 1,8,none⟩ = some (.bool false):=(jAk H7.boxAt2).2.2.2.2.2.2.2.2.1
  have s7 : W7.cell? ⟨w.heap.size + 1 + 1,7,none⟩ = some (.bool stt):=(jAk H7.boxAt2).2.2.2.2.2.2.2.1
  have H7s:=H7.swap
  have f9:=H7s.iFree 8
  have H8:=H7s.iWon stt
  clear H7 H7s
  go_upto_region 8 with fail
  generalize W7.setCell ⟨w.heap.size + 1 + 1,8,none⟩ (.bool stt) = W8 at *
  clear q7 s7 f9
  go_wp2_with (first
   | (refine ldI (w.heap.size + 1 + 1) (jAe ⟨key,val,fl,atW c.exp en.now,cas,sec,seq,stt,stt,true⟩ ia ic) rfl _ rfl rfl H8.boxAt ?_)
   | (go_at_call 75;refine (HU.out _ _ H8).mono ?_;rintro e w9 ⟨⟨v9,rfl⟩,P9,H9⟩;clear H8 HU;have H10:=H9.less;clear H9;have r10:=H10.boxAt;have H11:=H10.less.swap)
   | (refine ldR gv ⟨0,val,fl,cas,jCv (atW c.exp en.now) en.now,0,stt,stt,false⟩ a4 c4 rfl _ rfl rfl r10 ?_)
   | (refine stR_ (w.heap.size + 1 + 1 + 1) ⟨0,val,fl,cas,jCv (atW c.exp en.now) en.now,0,stt,stt,false⟩ a4 c4 rfl _ _ rfl rfl rfl H11.boxAt ?_;have H12:=H11.rsRow ⟨0,val,fl,cas,jCv (atW c.exp en.now) en.now,0,stt,stt,false⟩ a4 c4))
  exact jAj rfl H12.boxAt rfl ⟨a4,c4,P9,rfl,H12.less.swap.less.swap.less⟩
theorem kE4 (H : jAc w0 w r sd P st R) (key : ByteArray) (val : List UInt8) (fl exp cas sec seq : Int) (stt seen : Bool) (ia : Option Addr) (ic : Nat) (ex : Int) (T : Hs) (HA : Hid (∀ W,Calls Tryz.prog 40 #[.int .i64 c.exp,.int .i64 en.now] W fun e w' => e = .returned (.int .i64 (atW c.exp en.now)) ∧ w' = W))
  (hv : val.length ≤ 3000) (hex : (if c.sets then atW c.exp en.now else exp) = ex) (HB : Hid (∀ W (R' : jAd),jAc w0 W r sd P st R' → Bs W ia val.length ic (jA6 val)))
  (HU : Hid (∀ W (R' : jAd),jAc w0 W r sd P st R' → Calls Tryz.prog 75 #[.pointer (some ⟨r,0,none⟩),.agg (itC (jAe ⟨key,val,fl,ex,cas,sec,seq,stt,true,true⟩ ia ic))] W fun e w' => (∃ v,e = .returned v) ∧ ∃ P',jAc w0 w' r sd P' T R')) :
  Calls Tryz.prog 38 #[.pointer (some ⟨r,0,none⟩),.agg (cmC c va vc),.agg (enC en),.agg (itC (jAe ⟨key,val,fl,exp,cas,sec,seq,stt,true,seen⟩ ia ic))] w (jCo w0 r sd R (⟨0,val,fl,cas,jCv ex en.now,0,stt,false,true⟩,T)):=by
 have H0:=H.fourI (i:=⟨key,val,fl,exp,cas,sec,seq,stt,true,seen⟩) (ia:=ia) (ic:=ic) (c:=c) (va:=va) (vc:=vc) (en:=en)
 clear H
 go_enter Tryz.func38,Tryz.ntmps38
 go_upto_region 1 with fail
 rw [jAi]
 generalize (((w.alloc (.cells (cmC c va vc) 33)).alloc (.cells (enC en) 35)).alloc (.cells (itC (jAe ⟨key,val,fl,exp,cas,sec,seq,stt,true,seen⟩ ia ic)) 75)).alloc (.cells (rsC jAg none 0) 40) = W at *
 have d9:=(jAf H0.b4).2.2.2.2.2.2.2.2.2
 cases hs : c.sets with
 | false =>
  obtain rfl : exp = ex:=by rw [← hex,hs];rfl
  rw [hs] at d9
  have f0:=H0.iFree 9
  have i0:=(jAk H0.boxAt).2.2.2.2.2.2.2.2.2
  have H3:=H0.iSeen true
  clear H0
  go_upto_region 4 with fail
  clear d9 f0 i0 hex
  generalize W.setCell ⟨w.heap.size + 1 + 1,9,none⟩ (.bool true) = V3 at *
  go_upto_region 5 with (first
   | (refine ldI (w.heap.size + 1 + 1) (jAe ⟨key,val,fl,exp,cas,sec,seq,stt,true,true⟩ ia ic) rfl _ rfl rfl H3.boxAt ?_)
   | (refine ldE (w.heap.size + 1) en rfl _ rfl rfl H3.b3 ?_)
   | (go_at_call 76;refine (jHn (i:=⟨key,val,fl,exp,cas,sec,seq,stt,true,true⟩) (a:=ia) (c:=ic) (en:=en) H3.law hv (HB.out _ _ H3)).mono ?_;rintro e w4 ⟨a4,c4,rfl,N4⟩;have H4 : jAc w0 w4 r sd P st _:=⟨N4.rot,H3.ents⟩;clear N4 H3;have H5:=H4.swap.box (.cells (rsC ⟨0,val,fl,cas,jCv exp en.now,0,stt,false,false⟩ a4 c4) 40);clear H4)
   | (refine stR_ w4.heap.size ⟨0,val,fl,cas,jCv exp en.now,0,stt,false,false⟩ a4 c4 rfl _ _ rfl rfl rfl (World.alloc_heap_new w4 _) ?_;rw [jAq];generalize w4.alloc (.cells (rsC ⟨0,val,fl,cas,jCv exp en.now,0,stt,false,false⟩ a4 c4) 40) = W5 at *))
  obtain ⟨gv,hgv⟩ : ∃ gv,w4.heap.size = gv:=⟨_,rfl⟩
  rw [hgv] at H5 ⊢
  clear hgv HB
  have q5 : W5.cell? ⟨w.heap.size + 1 + 1,8,none⟩ = some (.bool true):=(jAk H5.boxAt2).2.2.2.2.2.2.2.2.1
  have f8:=H5.rFree 8
  have z8 : W5.cell? ⟨gv,8,none⟩ = some (.bool false):=(jB4 H5.boxAt).2.2.2.2.2.2.2.2
  have H6:=H5.rLost true
  go_upto_region 6 with fail
  generalize W5.setCell ⟨gv,8,none⟩ (.bool true) = W6 at *
  clear q5 f8 z8 H5
  have q6 : W6.cell? ⟨w.heap.size + 1 + 1,8,none⟩ = some (.bool true):=(jAk H6.boxAt2).2.2.2.2.2.2.2.2.1
  have s6 : W6.cell? ⟨w.heap.size + 1 + 1,7,none⟩ = some (.bool stt):=(jAk H6.boxAt2).2.2.2.2.2.2.2.1
  have f7:=H6.rFree 7
  have z7 : W6.cell? ⟨gv,7,none⟩ = some (.bool false):=(jB4 H6.boxAt).2.2.2.2.2.2.2.1
  have H7:=H6.rWon false
  go_upto_region 7 with fail
  generalize W6.setCell ⟨gv,7,none⟩ (.bool false) = W7 at *
  clear q6 s6 f7 z7 H6
  have q7 : W7.cell? ⟨w.heap.size + 1 + 1,8,none⟩ = some (.bool true):=(jAk H7.boxAt2).2.2.2.2.2.2.2.2.1
  have s7 : W7.cell? ⟨w.heap.size + 1 + 1,7,none⟩ = some (.bool stt):=(jAk H7.boxAt2).2.2.2.2.2.2.2.1
  have H7s:=H7.swap
  have f9:=H7s.iFree 8
  have H8:=H7s.iWon true
  clear H7 H7s
  go_upto_region 8 with fail
  generalize W7.setCell ⟨w.heap.size + 1 + 1,8,none⟩ (.bool true) = W8 at *
  clear q7 s7 f9
  go_wp2_with (first
   | (refine ldI (w.heap.size + 1 + 1) (jAe ⟨key,val,fl,exp,cas,sec,seq,stt,true,true⟩ ia ic) rfl _ rfl rfl H8.boxAt ?_)
   | (go_at_call 75;refine (HU.out _ _ H8).mono ?_;rintro e w9 ⟨⟨v9,rfl⟩,P9,H9⟩;clear H8 HU;have H10:=H9.less;clear H9;have r10:=H10.boxAt;have H11:=H10.less.swap)
   | (refine ldR gv ⟨0,val,fl,cas,jCv exp en.now,0,stt,false,true⟩ a4 c4 rfl _ rfl rfl r10 ?_)
   | (refine stR_ (w.heap.size + 1 + 1 + 1) ⟨0,val,fl,cas,jCv exp en.now,0,stt,false,true⟩ a4 c4 rfl _ _ rfl rfl rfl H11.boxAt ?_;have H12:=H11.rsRow ⟨0,val,fl,cas,jCv exp en.now,0,stt,false,true⟩ a4 c4))
  exact jAj rfl H12.boxAt rfl ⟨a4,c4,P9,rfl,H12.less.swap.less.swap.less⟩
 | true =>
  obtain rfl : atW c.exp en.now = ex:=by rw [← hex,hs];rfl
  rw [hs] at d9
  have d4:=(jAf H0.b4).2.2.2.2.1
  have n0:=(jBx H0.b3).1
  have f3:=H0.iFree 3
  have i3:=(jAk H0.boxAt).2.2.2.1
  have H2:=H0.iExp (atW c.exp en.now)
  have f0:=H2.iFree 9
  have i0:=(jAk H2.boxAt).2.2.2.2.2.2.2.2.2
  have H3:=H2.iSeen true
  clear H0 H2
  go_upto_region 4 with (go_at_call 40;refine (HA.out _).mono ?_;rintro e w1 ⟨rfl,rfl⟩)
  clear d9 f0 i0 hex d4 n0 f3 i3
  generalize (w1.setCell ⟨w.heap.size + 1 + 1,3,none⟩ (.int .i64 (atW c.exp en.now))).setCell ⟨w.heap.size + 1 + 1,9,none⟩ (.bool true) = V3 at *
  go_upto_region 5 with (first
   | (refine ldI (w.heap.size + 1 + 1) (jAe ⟨key,val,fl,atW c.exp en.now,cas,sec,seq,stt,true,true⟩ ia ic) rfl _ rfl rfl H3.boxAt ?_)
   | (refine ldE (w.heap.size + 1) en rfl _ rfl rfl H3.b3 ?_)
   | (go_at_call 76;refine (jHn (i:=⟨key,val,fl,atW c.exp en.now,cas,sec,seq,stt,true,true⟩) (a:=ia) (c:=ic) (en:=en) H3.law hv (HB.out _ _ H3)).mono ?_;rintro e w4 ⟨a4,c4,rfl,N4⟩;have H4 : jAc w0 w4 r sd P st _:=⟨N4.rot,H3.ents⟩;clear N4 H3;have H5:=H4.swap.box (.cells (rsC ⟨0,val,fl,cas,jCv (atW c.exp en.now) en.now,0,stt,false,false⟩ a4 c4) 40);clear H4)
   | (refine stR_ w4.heap.size ⟨0,val,fl,cas,jCv (atW c.exp en.now) en.now,0,stt,false,false⟩ a4 c4 rfl _ _ rfl rfl rfl (World.alloc_heap_new w4 _) ?_;rw [jAq];generalize w4.alloc (.cells (rsC ⟨0,val,fl,cas,jCv (atW c.exp en.now) en.now,0,stt,false,false⟩ a4 c4) 40) = W5 at *))
  obtain ⟨gv,hgv⟩ : ∃ gv,w4.heap.size = gv:=⟨_,rfl⟩
  rw [hgv] at H5 ⊢
  clear hgv HB
  have q5 : W5.cell? ⟨w.heap.size + 1 + 1,8,none⟩ = some (.bool true):=(jAk H5.boxAt2).2.2.2.2.2.2.2.2.1
  have f8:=H5.rFree 8
  have z8 : W5.cell? ⟨gv,8,none⟩ = some (.bool false):=(jB4 H5.boxAt).2.2.2.2.2.2.2.2
  have H6:=H5.rLost true
  go_upto_region 6 with fail
  generalize W5.setCell ⟨gv,8,none⟩ (.bool true) = W6 at *
  clear q5 f8 z8 H5
  have q6 : W6.cell? ⟨w.heap.size + 1 + 1,8,none⟩ = some (.bool true):=(jAk H6.boxAt2).2.2.2.2.2.2.2.2.1
  have s6 : W6.cell? ⟨w.heap.size + 1 + 1,7,none⟩ = some (.bool stt):=(jAk H6.boxAt2).2.2.2.2.2.2.2.1
  have f7:=H6.rFree 7
  have z7 : W6.cell? ⟨gv,7,none⟩ = some (.bool false):=(jB4 H6.boxAt).2.2.2.2.2.2.2.1
  have H7:=H6.rWon false
  go_upto_region 7 with fail
  generalize W6.setCell ⟨gv,7,none⟩ (.bool false) = W7 at *
  clear q6 s6 f7 z7 H6
  have q7 : W7.cell? ⟨w.heap.size + 1 + 1,8,none⟩ = some (.bool true):=(jAk H7.boxAt2).2.2.2.2.2.2.2.2.1
  have s7 : W7.cell? ⟨w.heap.size + 1 + 1,7,none⟩ = some (.bool stt):=(jAk H7.boxAt2).2.2.2.2.2.2.2.1
  have H7s:=H7.swap
  have f9:=H7s.iFree 8
  have H8:=H7s.iWon true
  clear H7 H7s
  go_upto_region 8 with fail
  generalize W7.setCell ⟨w.heap.size + 1 + 1,8,none⟩ (.bool true) = W8 at *
  clear q7 s7 f9
  go_wp2_with (first
   | (refine ldI (w.heap.size + 1 + 1) (jAe ⟨key,val,fl,atW c.exp en.now,cas,sec,seq,stt,true,true⟩ ia ic) rfl _ rfl rfl H8.boxAt ?_)
   | (go_at_call 75;refine (HU.out _ _ H8).mono ?_;rintro e w9 ⟨⟨v9,rfl⟩,P9,H9⟩;clear H8 HU;have H10:=H9.less;clear H9;have r10:=H10.boxAt;have H11:=H10.less.swap)
   | (refine ldR gv ⟨0,val,fl,cas,jCv (atW c.exp en.now) en.now,0,stt,false,true⟩ a4 c4 rfl _ rfl rfl r10 ?_)
   | (refine stR_ (w.heap.size + 1 + 1 + 1) ⟨0,val,fl,cas,jCv (atW c.exp en.now) en.now,0,stt,false,true⟩ a4 c4 rfl _ _ rfl rfl rfl H11.boxAt ?_;have H12:=H11.rsRow ⟨0,val,fl,cas,jCv (atW c.exp en.now) en.now,0,stt,false,true⟩ a4 c4))
  exact jAj rfl H12.boxAt rfl ⟨a4,c4,P9,rfl,H12.less.swap.less.swap.less⟩
theorem kHk (H : jAc w0 w r sd P st R) (hg : jAo n st) (hn : n ≤ 900) (hx : x ∈ P.es) (hi : x.t.iv.ok) (hv : x.t.iv.val.length ≤ 3000) (hen : en.ok) (he : T40 c.exp) (hno : N41 en.now) (hc : I64 c.exp) :
  Calls Tryz.prog 38 #[.pointer (some ⟨r,0,none⟩),.agg (cmC c va vc),.agg (enC en),.agg (itC x.t.it)] w (jCo w0 r sd R ({ jA8 (jC2 c en x.t.iv) en with lost:=x.t.iv.won,won:=!x.t.iv.won && x.t.iv.st },jBa st { jC2 c en x.t.iv with won:=x.t.iv.won || x.t.iv.st })):=by
 have hat:=jCm hc hen.now
 have HA:=jAa (fun W => jHp (c:=c) (en:=en) he hno W)
 have hok : ({ jC2 c en x.t.iv with won:=x.t.iv.won || x.t.iv.st } : Iv).ok:=jT6 (j:=x.t.iv) rfl rfl hi (by show I64 (if c.sets then atW c.exp en.now else x.t.iv.exp);split;exact hat;exact hi.exp) rfl rfl
 have HU : Hid (∀ W (R' : jAd),jAc w0 W r sd P st R' → Calls Tryz.prog 75 #[.pointer (some ⟨r,0,none⟩),.agg (itC (jAe { jC2 c en x.t.iv with won:=x.t.iv.won || x.t.iv.st } x.t.a x.t.c))] W fun e w' => (∃ v,e = .returned v) ∧ ∃ P',jAc w0 w' r sd P' (jBa st { jC2 c en x.t.iv with won:=x.t.iv.won || x.t.iv.st }) R'):=fun W R' HW => (jT5 HW hg hn hx { jC2 c en x.t.iv with won:=x.t.iv.won || x.t.iv.st } hok rfl rfl).mono fun _ _ h => ⟨h.1,h.2.1⟩
 have HB : Hid (∀ W (R' : jAd),jAc w0 W r sd P st R' → Bs W x.t.a x.t.iv.val.length x.t.c (jA6 x.t.iv.val)):=fun W R' HW => HW.tales x hx
 generalize jBa st { jC2 c en x.t.iv with won:=x.t.iv.won || x.t.iv.st } = T at *
 show Calls _ _ #[_,_,_,.agg (itC (jAe x.t.iv x.t.a x.t.c))] _ _
 generalize x.t.iv = i at *
 obtain ⟨key,val,fl,exp,cas,sec,seq,stt,won,seen⟩:=i
 cases won with
 | false => exact kEe H key val fl exp cas sec seq stt seen x.t.a x.t.c _ T HA hv rfl HB HU
 | true => exact kE4 H key val fl exp cas sec seq stt seen x.t.a x.t.c _ T HA hv rfl HB HU
end
end
section
set_option linter.unusedVariables false
open Go.RowKit Go.Shelf Go.Sort
section
variable {w0 w : World} {A R : jAd} {r sd n : Nat} {P : Rp} {st : Hs} {x : Re} {c : Cv} {va : Option Addr} {vc : Nat} {en : En}
theorem jXe (W : World) : Bs W none 0 0 (jA6 []):=.inl ⟨rfl,rfl,fun _ => rfl⟩
theorem kI6 (H : jAc w0 w r sd P st R) (hg : jAo n st) (hn : n < 900) (hbud : I64 st.slab.bud) (hen : en.ok) (hc : c.ok) (he : T40 c.exp) (hno : N41 en.now) :
  Calls Tryz.prog 74 #[.pointer (some ⟨r,0,none⟩),.agg (cmC c va vc),.agg (enC en),.int .i64 (atW c.exp en.now)] w (jCo w0 r sd R (jHr sd st c en)):=by
 have hx:=jCm hc.exp hen.now
 obtain ⟨p,hp⟩ : ∃ p,jBb sd st c.key [] 0 (atW c.exp en.now) en = p:=⟨_,rfl⟩
 have hp2 : (jBk sd st (jBf c.key [] 0 (atW c.exp en.now) en) en).2 = p.2:=by rw [← hp];rfl
 have hnk : (jBf c.key [] 0 (atW c.exp en.now) en).ok:=⟨hc.key,Nat.zero_le _,hx,hen.now,hen.seq⟩
 have hg2 : jAo (n + 1) p.2:=by rw [← hp2];exact jQ2 hg sd hnk en (.inl (Nat.le_of_lt hn))
 have HP:=jAa (fun W (R' : jAd) (HW : jAc w0 W r sd P st R') => jJw (a:=none) (c:=0) HW hg (Nat.le_of_lt hn) hbud hen c.key [] 0 (atW c.exp en.now) hc.key (Nat.zero_le _) hx (fun V _ => jXe V) p hp)
 have H0:=((H.box (.cells (cmC c va vc) 33)).box (.cells (enC en) 35)).box (.cells (rsC jAg none 0) 40)
 rw [World.size_alloc,World.size_alloc] at H0
 clear H
 by_cases hs : p.1.s = 2
 ·have hw : jHr sd st c en = ({ jA8 { jBf c.key [] 0 (atW c.exp en.now) en with won:=true } en with won:=true },jBa p.2 { jBf c.key [] 0 (atW c.exp en.now) en with won:=true }):=by
   unfold jHr
   rw [if_pos (jP3.1 (by rw [hp];exact hs)),hp2]
   rfl
  rw [hw]
  have hok : ({ jBf c.key [] 0 (atW c.exp en.now) en with won:=true } : Iv).ok:=⟨hc.key,Nat.zero_le _,hx,hen.now,hen.seq⟩
  obtain ⟨i,hi⟩ : ∃ i : Iv,{ jBf c.key [] 0 (atW c.exp en.now) en with won:=true } = i:=⟨_,rfl⟩
  have HI:=jAa hi
  rw [hi] at hok ⊢
  have HU:=jAa (fun W (P' : Rp) (R' : jAd) (HW : jAc w0 W r sd P' p.2 R') => jQm HW hg2 hn i hok none 0 (fun V _ => by rw [← hi];exact jXe V) _ _ rfl rfl)
  have hval : i.val = []:=by rw [← hi];rfl
  have HVW:=jAa (fun W (A' : jAd) (HW : Law w0 W A') => jHn (i:=i) (a:=none) (c:=0) (en:=en) HW (by rw [hval];exact Nat.zero_le _) (by rw [hval];exact jXe W))
  have hil : itC (jAe i none 0) = #[.string c.key,.slice none 0 0,.int .u32 0,.int .i64 (atW c.exp en.now),.int .u64 (IntKind.u64.wrap (en.seq + 1)),.int .i64 en.now,.int .u64 en.seq,.bool false,.bool true,.bool false]:=by rw [← hi];rfl
  have hsb2 : (p.1.s != 2) = false:=by rw [hs];rfl
  clear hs hw hp hp2 hi hok
  go_enter Tryz.func74,Tryz.ntmps74
  go_upto_region 1 with fail
  rw [jAi]
  generalize ((w.alloc (.cells (cmC c va vc) 33)).alloc (.cells (enC en) 35)).alloc (.cells (rsC jAg none 0) 40) = W at *
  have d1:=(jAf H0.b3).2.1
  go_upto_region 4 with (first
   | (refine ldE (w.heap.size + 1) en rfl _ rfl rfl H0.boxAt2 ?_)
   | (go_at_call 39;refine (HP.out _ _ H0).mono ?_;rintro e w3 ⟨rfl,P3,H3⟩;have H4:=(H3.box (.cells (rsC p.1 none 0) 40));clear H3 H0 d1)
   | (refine stR_ w3.heap.size p.1 none 0 rfl _ _ rfl rfl rfl (World.alloc_heap_new w3 _) ?_;rw [jAq];generalize w3.alloc (.cells (rsC p.1 none 0) 40) = w4 at *;have c0:=(jB4 H4.boxAt).1;have H5:=H4.less;clear H4))
  clear c0
  have d1:=(jAf H5.b3).2.1
  obtain ⟨n0,n1,n2,n3⟩:=jBx H5.boxAt2
  have H6:=H5.box (.cells (itC (jAe i none 0)) 75)
  rw [hil] at H6
  go_upto_region 5 with fail
  obtain ⟨G,hG⟩ : ∃ G,w4.heap.size = G:=⟨_,rfl⟩
  generalize w4.alloc (.cells #[.string c.key,.slice none 0 0,.int .u32 0,.int .i64 (atW c.exp en.now),.int .u64 (IntKind.u64.wrap (en.seq + 1)),.int .i64 en.now,.int .u64 en.seq,.bool false,.bool true,.bool false] 75) = W6 at *
  rw [← hil] at H6
  rw [hG] at H6 ⊢
  clear hG d1 n0 n1 n2 n3 H5 hil
  go_wp2_with (first
   | (refine ldI G (jAe i none 0) rfl _ rfl rfl H6.boxAt ?_)
   | (go_at_call 75;refine (HU.out _ _ _ H6).mono ?_;rintro e w7 ⟨rfl,⟨P7,H7⟩,-⟩;clear H6 HU;have i7:=H7.boxAt;have e7:=H7.b3)
   | (refine ldI G (jAe i none 0) rfl _ rfl rfl i7 ?_)
   | (refine ldE (w.heap.size + 1) en rfl _ rfl rfl e7 ?_)
   | (go_at_call 76;refine (HVW.out _ _ H7.law).mono ?_;rintro e w8 ⟨a8,c8,rfl,N8⟩;have H8 : jAc w0 w8 r sd P7 _ _:=⟨N8.rot,H7.ents⟩;clear N8 e7 i7 H7;have H9:=H8.swap.less.box (.cells (rsC (jA8 i en) a8 c8) 40);clear H8)
   | (refine stR_ w8.heap.size (jA8 i en) a8 c8 rfl _ _ rfl rfl rfl (World.alloc_heap_new w8 _) ?_;rw [jAq];generalize w8.alloc (.cells (rsC (jA8 i en) a8 c8) 40) = w9 at *;have c7:=(jB4 H9.boxAt).2.2.2.2.2.2.2.1;have f7:=H9.rFree 7;have H10:=H9.rWon true;clear H9;have r10:=H10.boxAt)
   | (refine ldR w8.heap.size { jA8 i en with won:=true } a8 c8 rfl _ rfl rfl r10 ?_;have H11:=H10.less.swap)
   | (refine stR_ (w.heap.size + 1 + 1) { jA8 i en with won:=true } a8 c8 rfl _ _ rfl rfl rfl H11.boxAt ?_;have H12:=H11.rsRow { jA8 i en with won:=true } a8 c8))
  exact jAj rfl H12.boxAt rfl ⟨a8,c8,P7,rfl,H12.less.swap.less.swap.less⟩
 ·have hw : jHr sd st c en = (jAh 1,p.2):=by
   unfold jHr
   rw [if_neg (fun h => hs (by rw [← hp];exact jP3.2 h)),hp2]
  rw [hw]
  have hsb2 : (p.1.s != 2) = true:=by simpa using hs
  clear hs hw hp hp2
  go_enter Tryz.func74,Tryz.ntmps74
  go_upto_region 1 with fail
  rw [jAi]
  generalize ((w.alloc (.cells (cmC c va vc) 33)).alloc (.cells (enC en) 35)).alloc (.cells (rsC jAg none 0) 40) = W at *
  have d1:=(jAf H0.b3).2.1
  go_wp2_with (first
   | (refine ldE (w.heap.size + 1) en rfl _ rfl rfl H0.boxAt2 ?_)
   | (go_at_call 39;refine (HP.out _ _ H0).mono ?_;rintro e w3 ⟨rfl,P3,H3⟩;have H4:=(H3.box (.cells (rsC p.1 none 0) 40));clear H3 H0 d1)
   | (refine stR_ w3.heap.size p.1 none 0 rfl _ _ rfl rfl rfl (World.alloc_heap_new w3 _) ?_;rw [jAq];generalize w3.alloc (.cells (rsC p.1 none 0) 40) = w4 at *;have c0:=(jB4 H4.boxAt).1)
   | (go_at_call 33;refine (jCq 1 _).mono ?_;rintro e w5 ⟨rfl,hgr⟩;have H6:=(H4.step hgr).less;clear hgr H4 c0)
   | (refine stR_ (w.heap.size + 1 + 1) (jAh 1) none 0 rfl _ _ rfl rfl rfl H6.boxAt ?_;have H8:=H6.rsRow (jAh 1) none 0))
  exact jAj rfl H8.boxAt rfl (jBg rfl rfl H8.less.less.less)
end
end
section
set_option linter.unusedVariables false
open Go.RowKit Go.Shelf Go.Sort
section
variable {w0 w : World} {A R : jAd} {r sd n : Nat} {P : Rp} {st : Hs} {x : Re} {c : Cv} {va : Option Addr} {vc : Nat} {en : En}
theorem Law.joinV {a1 : Option Addr} {c1 : Nat} {l m : List UInt8} {v : Value} {w' : World} (H : Law w0 w ((jA5 0 a1 c1 l).and R)) (hown : w'.ownsRow 0 5 1 v (l.length + m.length) (byU l ++ byU m)) (hg : w.grownBy w' (Value.slice a1 l.length c1).ownBlock) (hat : v.ownBlock = (Value.slice a1 l.length c1).ownBlock ∨ v.ownBlock = some w.heap.size) :
  ∃ a2 c2,v = .slice a2 (l.length + m.length) c2 ∧ Law w0 w' ((jA5 0 a2 c2 (l ++ m)).and R):=by
 obtain ⟨a2,c2,rfl⟩:=jAr hown
 refine ⟨a2,c2,rfl,?_⟩
 have h:=Law.app0 (n0:=0) (e:=5) (size:=1) (v:=.slice a1 l.length c1) (n:=l.length) (xs:=byU l) H hown hg hat
 unfold jA5
 rw [List.length_append,kBm]
 exact h
theorem Law.oneV {a1 : Option Addr} {c1 : Nat} {l : List UInt8} {v : Value} {w' : World} (H : Law w0 w R) (hown : w'.ownsRow 0 5 1 v (0 + l.length) ([] ++ byU l)) (hg : w.grownBy w' (Value.slice none 0 0).ownBlock) (hat : v.ownBlock = (Value.slice none 0 0).ownBlock ∨ v.ownBlock = some w.heap.size) :
  ∃ a2 c2,v = .slice a2 l.length c2 ∧ Law w0 w' ((jA5 0 a2 c2 l).and R):=by
 rw [Nat.zero_add,List.nil_append] at hown
 obtain ⟨a2,c2,rfl⟩:=jAr hown
 exact ⟨a2,c2,rfl,(H.nil (n0:=0) (e:=5) (size:=1)).app0 hown hg hat⟩
theorem jAc.joinV {a1 : Option Addr} {c1 : Nat} {l m : List UInt8} {v : Value} {w' : World} (H : jAc w0 w r sd P st ((jA5 0 a1 c1 l).and R)) (hown : w'.ownsRow 0 5 1 v (l.length + m.length) (byU l ++ byU m)) (hg : w.grownBy w' (Value.slice a1 l.length c1).ownBlock) (hat : v.ownBlock = (Value.slice a1 l.length c1).ownBlock ∨ v.ownBlock = some w.heap.size) :
  ∃ a2 c2,v = .slice a2 (l.length + m.length) c2 ∧ jAc w0 w' r sd P st ((jA5 0 a2 c2 (l ++ m)).and R):=by
 obtain ⟨a2,c2,h1,h2⟩:=Law.joinV H.law.rot hown hg hat
 exact ⟨a2,c2,h1,h2.rot,H.ents⟩
theorem jAc.oneV {l : List UInt8} {v : Value} {w' : World} (H : jAc w0 w r sd P st R) (hown : w'.ownsRow 0 5 1 v (0 + l.length) ([] ++ byU l)) (hg : w.grownBy w' (Value.slice none 0 0).ownBlock) (hat : v.ownBlock = (Value.slice none 0 0).ownBlock ∨ v.ownBlock = some w.heap.size) :
  ∃ a2 c2,v = .slice a2 l.length c2 ∧ jAc w0 w' r sd P st ((jA5 0 a2 c2 l).and R):=by
 obtain ⟨a2,c2,h1,h2⟩:=Law.oneV (a1:=none) (c1:=0) H.law hown hg hat
 exact ⟨a2,c2,h1,h2.rot,H.ents⟩
theorem jAc.b5 {B C D E F : jAd} {k : Nat} {o : Obj} (H : jAc w0 w r sd P st (B.and (C.and (D.and (E.and ((jAn k o).and F)))))) : w.heap[k]? = some o:=H.law.q.2.1.2.1.2.1.2.1.2.1.1
theorem jJb (sd : Nat) (h : Hs) (key : ByteArray) (v : List UInt8) (fl exp : Int) (en : En) : (jBb sd h key v fl exp en).1.val = []:=by
 unfold jBb stR
 dsimp only
 split
 ·rfl
 ·split <;> rfl
def jLa (sd : Nat) (h : Hs) (c : Cv) (en : En) (i : Iv) : Rv × Hs:=if 1000 < i.val.length + c.val.length then (jAh 9,h) else jBb sd h c.key (joinV c i) i.fl i.exp en
theorem kCs (H : jAc w0 w r sd P st R) (hg : jAo n st) (hn : n ≤ 900) (hbud : I64 st.slab.bud) (hx : x ∈ P.es) (hi : x.t.iv.ok) (hv : x.t.iv.val.length ≤ 3000) (hcv : c.val.length ≤ 3000) (hen : en.ok) (hc : c.ok) (hrd : ∀ W,Law w0 W R → Bs W va c.val.length vc (jA6 c.val)) :
  Calls Tryz.prog 41 #[.pointer (some ⟨r,0,none⟩),.agg (cmC c va vc),.agg (enC en),.agg (itC x.t.it)] w (jCo w0 r sd R (jLa sd st c en x.t.iv)):=by
 have HB : Hid (∀ W (R' : jAd),jAc w0 W r sd P st R' → Bs W x.t.a x.t.iv.val.length x.t.c (jA6 x.t.iv.val)):=fun W R' HW => HW.tales x hx
 have HPUT:=jAa (fun W (R' : jAd) (v : List UInt8) (a' : Option Addr) (c' : Nat) (HW : jAc w0 W r sd P st ((jA5 0 a' c' v).and R')) (hvl : v.length ≤ 3000) => jJw (a:=a') (c:=c') HW hg hn hbud hen c.key v x.t.iv.fl x.t.iv.exp hc.key (Nat.le_trans hvl (by decide)) hi.exp (fun V h => jDi.bs h.q.1) _ rfl)
 show Calls _ _ #[_,_,_,.agg (itC (jAe x.t.iv x.t.a x.t.c))] _ _
 have hif:=hi.exp
 clear hi hx
 generalize x.t.iv = i at *
 generalize x.t.a = ia at *
 generalize x.t.c = ic at *
 have H0:=H.fourI (i:=i) (ia:=ia) (ic:=ic) (c:=c) (va:=va) (vc:=vc) (en:=en)
 obtain ⟨p,hp⟩ : ∃ p,i.val.length = p:=⟨_,rfl⟩
 obtain ⟨q,hq⟩ : ∃ q,c.val.length = q:=⟨_,rfl⟩
 have HLP:=jAa hp
 have HLQ:=jAa hq
 clear H
 go_enter Tryz.func41,Tryz.ntmps41
 go_upto_region 1 with fail
 rw [jAi]
 generalize (((w.alloc (.cells (cmC c va vc) 33)).alloc (.cells (enC en) 35)).alloc (.cells (itC (jAe i ia ic)) 75)).alloc (.cells (rsC jAg none 0) 40) = W at *
 have v1 : W.cell? ⟨w.heap.size + 1 + 1,1,none⟩ = some (.slice ia p ic):=by rw [← hp];exact (jAk H0.boxAt).2.1
 have d2 : W.cell? ⟨w.heap.size,2,none⟩ = some (.slice va q vc):=by rw [← hq];exact (jAf H0.b4).2.2.1
 by_cases hbig : 1000 < p + q
 ·have hr : jLa sd st c en i = (jAh 9,st):=by unfold jLa;rw [if_pos (by rw [hp,hq];exact hbig)]
  have HR:=jAa hr
  have hbi : (1000 : Int) < (p : Int) + (q : Int):=by omega
  have hp3 : p ≤ 3000:=by omega
  have hq3 : q ≤ 3000:=by omega
  clear hr hbig hv hcv hp hq
  go_wp2_with (first
   | (go_at_call 33;refine (jCq 9 _).mono ?_;rintro e w3 ⟨rfl,hgr⟩;have H4:=(H0.step hgr).swap;clear hgr v1 d2 H0)
   | (refine stR_ (w.heap.size + 1 + 1 + 1) (jAh 9) none 0 rfl _ _ rfl rfl rfl H4.boxAt ?_;have H8:=H4.rsRow (jAh 9) none 0))
  exact jAj rfl H8.boxAt rfl (by rw [HR.out];exact jBg rfl rfl H8.less.less.less.less)
 have hr : jLa sd st c en i = jBb sd st c.key (joinV c i) i.fl i.exp en:=by unfold jLa;rw [if_neg (by rw [hp,hq];exact hbig)]
 have HR:=jAa hr
 have hbi : (p : Int) + (q : Int) ≤ 1000:=by omega
 have hb1:=HB.out _ _ H0
 rw [hp] at hb1
 clear hr hv hcv
 go_upto_region 4 with (at_builtin;refine jC6 rfl _ _ rfl 0 _ 0 [] rfl (World.ownsRow_nil _ _ _ _) _ _ _ i.val rfl hp hb1 (by omega) (Nat.zero_le _) ?_;intro u1 w1 hown1 hg1 hat1;rw [← hp] at hown1;obtain ⟨a1,c1,rfl,H1⟩:=H0.oneV hown1 hg1 hat1;rw [hp];clear hown1 hg1 hat1 v1 d2 hb1 H0)
 have d2 : w1.cell? ⟨w.heap.size,2,none⟩ = some (.slice va q vc):=by rw [← hq];exact (jAf H1.b5).2.2.1
 have hb2:=hrd _ H1.law.right.right.right.right.right.right
 rw [hq] at hb2
 have ho1 : w1.ownsRow 0 5 1 (.slice a1 p c1) p (byU i.val):=by have h:=H1.law.q.2.1.1;unfold jA5 at h;change w1.ownsRow 0 5 1 (.slice a1 i.val.length c1) i.val.length (byU i.val) at h;rw [hp] at h;exact h
 go_upto_region 5 with (at_builtin;refine jC6 rfl _ _ rfl 0 _ p (byU i.val) rfl ho1 _ _ _ c.val rfl hq hb2 (by omega) (Nat.zero_le _) ?_;intro u2 w2 hown2 hg2 hat2;rw [← hp,← hq] at hown2;rw [← hp] at hg2 hat2;obtain ⟨a2,c2,rfl,H2⟩:=H1.joinV hown2 hg2 hat2;rw [hp,hq];clear hown2 hg2 hat2 d2 hb2 ho1 H1)
 have o2:=(jAf H2.b5).1
 by_cases h7 : c.op = 7
 ·have hj : joinV c i = c.val ++ i.val:=by unfold joinV;rw [if_pos h7]
  have HJ:=jAa hj
  rw [h7] at o2
  have H3:=H2.less
  have d2 : w2.cell? ⟨w.heap.size,2,none⟩ = some (.slice va q vc):=by rw [← hq];exact (jAf H3.b4).2.2.1
  have hb2:=hrd _ H3.law.right.right.right.right.right
  rw [hq] at hb2
  clear hj h7 H2
  go_upto_region 7 with (at_builtin;refine jC6 rfl _ _ rfl 0 _ 0 [] rfl (World.ownsRow_nil _ _ _ _) _ _ _ c.val rfl hq hb2 (by omega) (Nat.zero_le _) ?_;intro u3 w3 hown3 hg3 hat3;rw [← hq] at hown3;obtain ⟨a3,c3,rfl,H4⟩:=H3.oneV hown3 hg3 hat3;rw [hq];clear hown3 hg3 hat3 d2 hb2 H3 o2)
  have v1 : w3.cell? ⟨w.heap.size + 1 + 1,1,none⟩ = some (.slice ia p ic):=by rw [← hp];exact (jAk H4.boxAt2).2.1
  have hb1:=HB.out _ _ H4
  rw [hp] at hb1
  have ho1 : w3.ownsRow 0 5 1 (.slice a3 q c3) q (byU c.val):=by have h:=H4.law.q.2.1.1;unfold jA5 at h;change w3.ownsRow 0 5 1 (.slice a3 c.val.length c3) c.val.length (byU c.val) at h;rw [hq] at h;exact h
  go_upto_region 8 with (at_builtin;refine jC6 rfl _ _ rfl 0 _ q (byU c.val) rfl ho1 _ _ _ i.val rfl hp hb1 (by omega) (Nat.zero_le _) ?_;intro u4 w4 hown4 hg4 hat4;rw [← hp,← hq] at hown4;rw [← hq] at hg4 hat4;obtain ⟨a4,c4,rfl,H5⟩:=H4.joinV hown4 hg4 hat4;rw [hp,hq];clear hown4 hg4 hat4 v1 hb1 ho1 H4)
  have d1:=(jAf H5.b5).2.1
  obtain ⟨-,-,k2,k3,-⟩:=jAk H5.boxAt2
  change _ = some (Value.int .u32 i.fl) at k2
  change _ = some (Value.int .i64 i.exp) at k3
  have hlen : (c.val ++ i.val).length ≤ 3000:=by rw [List.length_append];have h1:=HLP.out;have h2:=HLQ.out;omega
  have e5:=H5.b4
  have HQ:=jAa (HPUT.out _ _ _ _ _ H5 hlen)
  rw [List.length_append] at HQ
  rw [HLP.out,HLQ.out] at HQ
  clear HPUT HB
  go_wp2_with (first
   | (refine ldE (w.heap.size + 1) en rfl _ rfl rfl e5 ?_)
   | (go_at_call 39;refine HQ.out.mono ?_;rintro e w6 ⟨rfl,P6,H6⟩;have H7:=H6.less.swap;clear H6 H5 HQ d1 k2 k3 e5)
   | (refine stR_ (w.heap.size + 1 + 1 + 1) (jBb sd st c.key (c.val ++ i.val) i.fl i.exp en).1 none 0 rfl _ _ rfl rfl rfl H7.boxAt ?_;have H8:=H7.rsRow (jBb sd st c.key (c.val ++ i.val) i.fl i.exp en).1 none 0))
  exact jAj rfl H8.boxAt rfl (by rw [HR.out,HJ.out];exact jBg rfl (jJb _ _ _ _ _ _ _) H8.less.less.less.less)
 ·have hj : joinV c i = i.val ++ c.val:=by unfold joinV;rw [if_neg h7]
  have HJ:=jAa hj
  have hb7:=beq_eq_false_iff_ne.2 h7
  have H5:=H2
  clear hj h7 H2
  go_upto_region 8 with fail
  clear o2 hb7
  have d1:=(jAf H5.b5).2.1
  obtain ⟨-,-,k2,k3,-⟩:=jAk H5.boxAt2
  change _ = some (Value.int .u32 i.fl) at k2
  change _ = some (Value.int .i64 i.exp) at k3
  have hlen : (i.val ++ c.val).length ≤ 3000:=by rw [List.length_append];have h1:=HLP.out;have h2:=HLQ.out;omega
  have e5:=H5.b4
  have HQ:=jAa (HPUT.out _ _ _ _ _ H5 hlen)
  rw [List.length_append] at HQ
  rw [HLP.out,HLQ.out] at HQ
  clear HPUT HB
  go_wp2_with (first
   | (refine ldE (w.heap.size + 1) en rfl _ rfl rfl e5 ?_)
   | (go_at_call 39;refine HQ.out.mono ?_;rintro e w6 ⟨rfl,P6,H6⟩;have H7:=H6.less.swap;clear H6 H5 HQ d1 k2 k3 e5)
   | (refine stR_ (w.heap.size + 1 + 1 + 1) (jBb sd st c.key (i.val ++ c.val) i.fl i.exp en).1 none 0 rfl _ _ rfl rfl rfl H7.boxAt ?_;have H8:=H7.rsRow (jBb sd st c.key (i.val ++ c.val) i.fl i.exp en).1 none 0))
  exact jAj rfl H8.boxAt rfl (by rw [HR.out,HJ.out];exact jBg rfl (jJb _ _ _ _ _ _ _) H8.less.less.less.less)
end
end
section
set_option linter.unusedVariables false
set_option linter.unusedSimpArgs false
open Go.RowKit Go.Shelf Go.Sort
theorem jL0 {W : World} {g : Nat} {en : En} {t : TypeId} (h : W.heap[g]? = some (.cells (enC en) t (0,0))) : W.rangeAt g 0 (enC en).toList:=fun j v hv => by
 unfold World.cell?
 rw [h]
 show (enC en)[0 + j]? = some v
 rw [Nat.zero_add,← Array.getElem?_toList]
 exact hv
theorem jJn {Pr : Program} {Q : Exit → Act → World → Prop} (d : Nat) {o : Oper} {a : Act} {w w' : World} {K : Act → World → Prop} (hd : o.dst = some d) (t1 t2 : TypeId) (x : Operand) (hop : o.op = .convert t1 t2 x) (v : Value) (hx : a.eval x = v) {u : Value} (hr : (convert t1 t2 v).run Pr w = .ok u w') (h : K (a.put (some d) u) w') : o.wp Pr a w K Q:=by
 unfold Oper.wp execOp
 simp only [hop,hx,Sem.run_bind,hr,Result.andThen_ok]
 show K (a.put o.dst u) w'
 rw [hd]
 exact h
theorem jPx (p : Rv × Hs) (x : Int) : (jBc p x).1.val = p.1.val:=by
 unfold jBc
 split <;> rfl
theorem jS7 (p : Rv × Hs) (x : Int) : (jBc p x).2 = p.2:=by
 unfold jBc
 split <;> rfl
section
variable {w0 w : World} {A R : jAd} {r sd n : Nat} {P : Rp} {st : Hs} {x : Re} {c : Cv} {va : Option Addr} {vc : Nat} {en : En}
structure SR (g : Nat) (key : ByteArray) (fl exp : Int) (en : En) (W : World) : Prop where
 en : W.heap[g + 1]? = some (.cells (enC en) 35 (0,0))
 key : W.cell? ⟨g,1,none⟩ = some (.string key)
 fl : W.cell? ⟨g + 1 + 1,2,none⟩ = some (.int .u32 fl)
 exp : W.cell? ⟨g + 1 + 1,3,none⟩ = some (.int .i64 exp)
theorem SR.of {g k : Nat} {i : Iv} {ia : Option Addr} {ic : Nat} {o : Obj} (H : jAc w0 w r sd P st ((IP (g + 1 + 1) i ia ic).and ((jAn k o).and ((EnP (g + 1) en).and ((CmP g c va vc).and R))))) : SR g c.key i.fl i.exp en w :=
 ⟨H.b3,(jAf H.b4).2.1,(jAk H.boxAt).2.2.1,(jAk H.boxAt).2.2.2.1⟩
theorem jXz (H : jAc w0 w r sd P st R) (hg : jAo n st) (hn : n ≤ 900) (hbud : I64 st.slab.bud) (hx : x ∈ P.es) (hi : x.t.iv.ok) (hv : x.t.iv.val.length ≤ 3000) (hen : en.ok) (hc : c.ok) (hop : c.op = 10 ∨ c.op = 11) :
  Calls Tryz.prog 44 #[.pointer (some ⟨r,0,none⟩),.agg (cmC c va vc),.agg (enC en),.agg (itC x.t.it)] w (jCo w0 r sd R (jC9 sd st c en x.t.iv)):=by
 have HB : Hid (∀ W (R' : jAd),jAc w0 W r sd P st R' → Bs W x.t.a x.t.iv.val.length x.t.c (jA6 x.t.iv.val)):=fun W R' HW => HW.tales x hx
 show Calls _ _ #[_,_,_,.agg (itC (jAe x.t.iv x.t.a x.t.c))] _ _
 clear hx
 generalize x.t.iv = i at *
 generalize x.t.a = ia at *
 generalize x.t.c = ic at *
 have H0:=H.fourI (i:=i) (ia:=ia) (ic:=ic) (c:=c) (va:=va) (vc:=vc) (en:=en)
 have hcv:=jLx (HB.out _ _ H0)
 rw [jN6] at hcv
 have hdl : (⟨i.val.toArray⟩ : ByteArray).data.toList = i.val:=by simp
 have hsz : (⟨i.val.toArray⟩ : ByteArray).size ≤ 140737488351232:=by show i.val.toArray.size ≤ _;simp;omega
 obtain ⟨dV,hdV⟩ : ∃ d,jFy i.val = d:=⟨_,rfl⟩
 obtain ⟨dB,hdB⟩ : ∃ d,jE4 i.val = d:=⟨_,rfl⟩
 have HD : Hid (∀ W,Calls Tryz.prog 80 #[.string ⟨i.val.toArray⟩] W fun e w' => e = .returned (.tuple #[.int .u64 dV,.bool dB]) ∧ w' = W):=fun W => by
  have h:=jTm ⟨i.val.toArray⟩ hsz W
  rw [hdl,hdV,hdB] at h
  exact h
 obtain ⟨ln,hln⟩ : ∃ ln,i.val.length = ln:=⟨_,rfl⟩
 have c1:=(jAk H0.boxAt).2.1
 change _ = some (Value.slice ia i.val.length ic) at c1
 rw [hln] at c1
 rw [hln] at hcv hv
 have d0:=(jAf H0.b4).1
 have d6:=(jAf H0.b4).2.2.2.2.2.2.1
 clear hdl hsz H HB
 by_cases hbad : dec i.val = none ∨ 20 < ln
 ·have hr : jC9 sd st c en i = (jAh 8,st):=by
   unfold jC9
   rcases hbad with e | e
   ·rw [e]
   ·split
    ·rfl
    ·rw [if_pos (by rw [hln];exact e)]
  rw [hr]
  have hcase : dB = false ∨ (dB = true ∧ (20 : Int) < (ln : Int)):=by
   rcases hbad with e | e
   ·left
    rw [← hdB]
    unfold jE4
    rw [e]
    rfl
   ·cases dB
    ·exact .inl rfl
    ·exact .inr ⟨rfl,by omega⟩
  clear hr hbad hdV hdB hln d0 d6
  rcases hcase with rfl | ⟨rfl,h20⟩
  all_goals
   go_enter Tryz.func44,Tryz.ntmps44
   go_upto_region 1 with fail
   rw [jAi]
   generalize (((w.alloc (.cells (cmC c va vc) 33)).alloc (.cells (enC en) 35)).alloc (.cells (itC (jAe i ia ic)) 75)).alloc (.cells (rsC jAg none 0) 40) = W at *
   go_wp2_with (first
    | (go_at_call 80;refine (HD.out _).mono ?_;rintro e w1 ⟨rfl,rfl⟩;clear hcv)
    | (go_at_call 33;refine (jCq 8 _).mono ?_;rintro e w5 ⟨rfl,hgr⟩;have H6:=(H0.step hgr).swap;clear hgr)
    | (refine stR_ (w.heap.size + 1 + 1 + 1) (jAh 8) none 0 rfl _ _ rfl rfl rfl H6.boxAt ?_;have H7:=H6.rsRow (jAh 8) none 0))
   exact jAj rfl H7.boxAt rfl (jBg rfl rfl H7.less.less.less.less)
 ·have h20 : (ln : Int) ≤ 20:=by omega
  obtain ⟨x,hx⟩ : ∃ x,dec i.val = some x:=by
   cases hd : dec i.val with
   | none => exact absurd (.inl hd) hbad
   | some x => exact ⟨x,rfl⟩
  have h1:=hc.del
  unfold U64 at h1
  have hxb:=jUz hx
  obtain ⟨y,hy⟩ : ∃ y : Nat,jEa c x = (y : Int):=by
   have h1 : 0 ≤ jEa c x:=by
    unfold jEa
    repeat' split
    all_goals omega
   exact Int.eq_ofNat_of_zero_le h1
  have hyb : y < 18446744073709551616:=by
   have h2 : jEa c x < 18446744073709551616:=by
    unfold jEa
    repeat' split
    all_goals omega
   omega
  obtain ⟨p,hp⟩ : ∃ p,jBb sd st c.key (jCz (y : Int)) i.fl i.exp en = p:=⟨_,rfl⟩
  have hr : jC9 sd st c en i = jBc p y:=by
   unfold jC9
   rw [hx]
   dsimp only
   rw [if_neg (by rw [hln];omega),hy,hp]
  have HR:=jAa hr
  have HPV : Hid (p.1.val = []):=by show p.1.val = [];rw [← hp];exact jJb _ _ _ _ _ _ _
  have e1 : dV = (x : Int):=by rw [← hdV];unfold jFy;rw [hx];rfl
  have e2 : dB = true:=by rw [← hdB];unfold jE4;rw [hx];rfl
  rw [e1,e2] at HD
  have hsl : (jCz (y : Int)).length ≤ 140737488351232:=Nat.le_trans (jJf y hyb) (by decide)
  have HSH:=jAa (fun W => jQu y hyb W)
  have HPT : Hid (∀ (W : World) (R' : jAd) (a' : Option Addr) (c' : Nat),jAc w0 W r sd P st R' → (∀ V,Law w0 V R' → Bs V a' (Lib.decDigits y).length c' (jA6 (Lib.decDigits y))) → Calls Tryz.prog 39 #[.pointer (some ⟨r,0,none⟩),.agg (enC en),.string c.key,.slice a' (Lib.decDigits y).length c',.int .u32 i.fl,.int .i64 i.exp] W fun e w' => e = .returned (.agg (rsC p.1 none 0)) ∧ ∃ P',jAc w0 w' r sd P' p.2 R'):=fun W R' a' c' HW hb => jJw (a:=a') (c:=c') HW hg hn hbud hen c.key (jCz (y : Int)) i.fl i.exp hc.key hsl hi.exp hb p hp
  clear hr hbad hdV hdB hln e1 e2 hx hp hsl
  have HY:=jAa hy
  clear hy
  rcases hop with hop | hop
  ·rw [hop] at d0
   have c1f : IntKind.u64.wrap ((x : Int) + c.del) = (y : Int):=by
    rw [← HY.out]
    unfold jEa
    rw [if_pos hop]
    rfl
   go_enter Tryz.func44,Tryz.ntmps44
   go_upto_region 1 with fail
   rw [jAi]
   generalize (((w.alloc (.cells (cmC c va vc) 33)).alloc (.cells (enC en) 35)).alloc (.cells (itC (jAe i ia ic)) 75)).alloc (.cells (rsC jAg none 0) 40) = W at *
   go_upto_region 9 with (go_at_call 80;refine (HD.out _).mono ?_;rintro e w1 ⟨rfl,rfl⟩;clear hcv)
   try rw [c1f]
   have H1:=H0
   clear H0 c1 d0 d6 HD
   have H2:=H1.drew
   have hS:=SR.of H2
   clear H1
   refine jE0 (S:=SR w.heap.size c.key i.fl i.exp en) 14 (by kernel_rfl) (by simp) (by kernel_rfl) ?_
   simp only [List.take_succ_cons,List.take_zero,List.drop_succ_cons,List.drop_zero]
   generalize w1.drew = W2 at *
   refine tkA 0 42 (v:=.pointer (some ⟨r,0,none⟩)) rfl rfl (by kernel_rfl) (fun _ _ _ h => h) (Or.inl ⟨by rfl,fun W hW => by go_simp⟩) hS ?_
   simp only [Act.put,lyA,lyB,lyC]
   refine tkA 1 43 (v:=.agg (enC en)) rfl rfl (by kernel_rfl) (fun _ _ _ h => h) (yieldsIf_load_mid (by rfl) 35 _ rfl (w.heap.size + 1) 0 rfl (enC en).toList _ (fun W hW => jL0 hW.en) Tryz.underlying35 rfl (by rw [jHs en,Array.length_toList])) hS ?_
   simp only [Act.put,lyA,lyB,lyC]
   refine tkA 2 44 (v:=.pointer (some ⟨w.heap.size,1,none⟩)) rfl rfl (by kernel_rfl) (fun _ _ _ h => h) (Or.inl ⟨by rfl,fun W hW => by go_simp⟩) hS ?_
   simp only [Act.put,lyA,lyB,lyC]
   refine tkA 3 45 (v:=.string c.key) rfl rfl (by kernel_rfl) (fun _ _ _ h => h) (Or.inl ⟨by rfl,fun W hW => by have h1:=hW.key;go_simp⟩) hS ?_
   simp only [Act.put,lyA,lyB,lyC]
   refine tkA 4 46 (v:=.int .u64 (y : Int)) rfl rfl (by kernel_rfl) (fun _ _ _ h => h) (Or.inl ⟨by rfl,fun W hW => by go_simp⟩) hS ?_
   simp only [Act.put,lyA,lyB,lyC]
   refine tkA 7 49 (v:=.pointer (some ⟨w.heap.size + 1 + 1,2,none⟩)) rfl rfl (by kernel_rfl) (fun _ _ _ h => h) (Or.inl ⟨by rfl,fun W hW => by go_simp⟩) hS ?_
   simp only [Act.put,lyA,lyB,lyC]
   refine tkA 8 50 (v:=.int .u32 i.fl) rfl rfl (by kernel_rfl) (fun _ _ _ h => h) (Or.inl ⟨by rfl,fun W hW => by have h1:=hW.fl;go_simp⟩) hS ?_
   simp only [Act.put,lyA,lyB,lyC]
   refine tkA 9 51 (v:=.pointer (some ⟨w.heap.size + 1 + 1,3,none⟩)) rfl rfl (by kernel_rfl) (fun _ _ _ h => h) (Or.inl ⟨by rfl,fun W hW => by go_simp⟩) hS ?_
   simp only [Act.put,lyA,lyB,lyC]
   refine tkA 10 52 (v:=.int .i64 i.exp) rfl rfl (by kernel_rfl) (fun _ _ _ h => h) (Or.inl ⟨by rfl,fun W hW => by have h1:=hW.exp;go_simp⟩) hS ?_
   simp only [Act.put,lyA,lyB,lyC]
   refine tkA 12 54 (v:=.int .u64 (y : Int)) rfl rfl (by kernel_rfl) (fun _ _ _ h => h) (Or.inl ⟨by rfl,fun W hW => by go_simp⟩) hS ?_
   simp only [Act.put,lyA,lyB,lyC]
   refine jC8 5 (by kernel_rfl) rfl rfl ?_
   refine jCe 47 rfl (by go_simp) (HSH.out W2) ?_
   rintro e w3 ⟨rfl,hb3⟩
   refine ⟨_,rfl,?_⟩
   have H3:=H2.step (jB9 hb3)
   have S3:=SR.of H3
   clear hb3 H2 hS
   refine ⟨S3,?_⟩
   simp only [Act.put,lyA,lyB,lyC]
   obtain ⟨C,o,hcv,hB⟩:=jJa (Lib.decDigits y) w3
   have H4:=H3.drew.box o
   have S4:=SR.of H4.less
   refine jC8 6 (by kernel_rfl) rfl rfl ?_
   refine jJn 48 rfl 9 30 _ rfl _ rfl hcv ?_
   clear H3 S3 hcv
   refine ⟨S4,?_⟩
   simp only [Act.put,lyA,lyB,lyC]
   refine jC8 11 (by kernel_rfl) rfl rfl ?_
   refine jCe 53 rfl (by go_simp) (HPT.out _ _ _ _ H4 (fun V h => hB V h.q.1)) ?_
   rintro e w5 ⟨rfl,P5,H5⟩
   refine ⟨_,rfl,?_⟩
   have H6:=H5.less
   have S6:=SR.of H6
   clear H4 H5 S4 hB
   refine ⟨S6,?_⟩
   simp only [Act.put,lyA,lyB,lyC]
   refine jC8 13 (by kernel_rfl) rfl rfl ?_
   refine jCe 55 rfl (by go_simp) (jKk p y w5) ?_
   rintro e w7 ⟨rfl,hg7⟩
   refine ⟨_,rfl,?_⟩
   have H7:=H6.step hg7
   have S7:=SR.of H7
   clear H6 hg7 S6
   refine ⟨S7,?_⟩
   simp only [Act.put,lyA,lyB,lyC]
   refine wpAnyH_done (by kernel_rfl) ?_ _
   change wpList _ _ _ _ _ _
   have H8:=H7.swap
   clear H7 S7
   go_wp2_with (refine stR_ (w.heap.size + 1 + 1 + 1) (jBc p y).1 none 0 rfl _ _ rfl rfl rfl H8.boxAt ?_;have H9:=H8.rsRow (jBc p y).1 none 0)
   exact jAj rfl H9.boxAt rfl (by rw [HR.out];exact jBg rfl ((jPx _ _).trans HPV.out) (by rw [jS7];exact H9.less.less.less.less))
  ·rw [hop] at d0
   by_cases hlt : (x : Int) < c.del
   ·have hy0 : y = 0:=by
     have h:=HY.out
     unfold jEa at h
     rw [if_neg (by rw [hop];decide),if_pos hlt] at h
     omega
    subst hy0
    go_enter Tryz.func44,Tryz.ntmps44
    go_upto_region 1 with fail
    rw [jAi]
    generalize (((w.alloc (.cells (cmC c va vc) 33)).alloc (.cells (enC en) 35)).alloc (.cells (itC (jAe i ia ic)) 75)).alloc (.cells (rsC jAg none 0) 40) = W at *
    go_upto_region 9 with (go_at_call 80;refine (HD.out _).mono ?_;rintro e w1 ⟨rfl,rfl⟩;clear hcv)
    skip
    have H1:=H0
    clear H0 c1 d0 d6 HD
    have H2:=H1.drew
    have hS:=SR.of H2
    clear H1
    refine jE0 (S:=SR w.heap.size c.key i.fl i.exp en) 14 (by kernel_rfl) (by simp) (by kernel_rfl) ?_
    simp only [List.take_succ_cons,List.take_zero,List.drop_succ_cons,List.drop_zero]
    generalize w1.drew = W2 at *
    refine tkA 0 42 (v:=.pointer (some ⟨r,0,none⟩)) rfl rfl (by kernel_rfl) (fun _ _ _ h => h) (Or.inl ⟨by rfl,fun W hW => by go_simp⟩) hS ?_
    simp only [Act.put,lyA,lyB,lyC]
    refine tkA 1 43 (v:=.agg (enC en)) rfl rfl (by kernel_rfl) (fun _ _ _ h => h) (yieldsIf_load_mid (by rfl) 35 _ rfl (w.heap.size + 1) 0 rfl (enC en).toList _ (fun W hW => jL0 hW.en) Tryz.underlying35 rfl (by rw [jHs en,Array.length_toList])) hS ?_
    simp only [Act.put,lyA,lyB,lyC]
    refine tkA 2 44 (v:=.pointer (some ⟨w.heap.size,1,none⟩)) rfl rfl (by kernel_rfl) (fun _ _ _ h => h) (Or.inl ⟨by rfl,fun W hW => by go_simp⟩) hS ?_
    simp only [Act.put,lyA,lyB,lyC]
    refine tkA 3 45 (v:=.string c.key) rfl rfl (by kernel_rfl) (fun _ _ _ h => h) (Or.inl ⟨by rfl,fun W hW => by have h1:=hW.key;go_simp⟩) hS ?_
    simp only [Act.put,lyA,lyB,lyC]
    refine tkA 4 46 (v:=.int .u64 ((0 : Nat) : Int)) rfl rfl (by kernel_rfl) (fun _ _ _ h => h) (Or.inl ⟨by rfl,fun W hW => by go_simp⟩) hS ?_
    simp only [Act.put,lyA,lyB,lyC]
    refine tkA 7 49 (v:=.pointer (some ⟨w.heap.size + 1 + 1,2,none⟩)) rfl rfl (by kernel_rfl) (fun _ _ _ h => h) (Or.inl ⟨by rfl,fun W hW => by go_simp⟩) hS ?_
    simp only [Act.put,lyA,lyB,lyC]
    refine tkA 8 50 (v:=.int .u32 i.fl) rfl rfl (by kernel_rfl) (fun _ _ _ h => h) (Or.inl ⟨by rfl,fun W hW => by have h1:=hW.fl;go_simp⟩) hS ?_
    simp only [Act.put,lyA,lyB,lyC]
    refine tkA 9 51 (v:=.pointer (some ⟨w.heap.size + 1 + 1,3,none⟩)) rfl rfl (by kernel_rfl) (fun _ _ _ h => h) (Or.inl ⟨by rfl,fun W hW => by go_simp⟩) hS ?_
    simp only [Act.put,lyA,lyB,lyC]
    refine tkA 10 52 (v:=.int .i64 i.exp) rfl rfl (by kernel_rfl) (fun _ _ _ h => h) (Or.inl ⟨by rfl,fun W hW => by have h1:=hW.exp;go_simp⟩) hS ?_
    simp only [Act.put,lyA,lyB,lyC]
    refine tkA 12 54 (v:=.int .u64 ((0 : Nat) : Int)) rfl rfl (by kernel_rfl) (fun _ _ _ h => h) (Or.inl ⟨by rfl,fun W hW => by go_simp⟩) hS ?_
    simp only [Act.put,lyA,lyB,lyC]
    refine jC8 5 (by kernel_rfl) rfl rfl ?_
    refine jCe 47 rfl (by go_simp) (HSH.out W2) ?_
    rintro e w3 ⟨rfl,hb3⟩
    refine ⟨_,rfl,?_⟩
    have H3:=H2.step (jB9 hb3)
    have S3:=SR.of H3
    clear hb3 H2 hS
    refine ⟨S3,?_⟩
    simp only [Act.put,lyA,lyB,lyC]
    obtain ⟨C,o,hcv,hB⟩:=jJa (Lib.decDigits 0) w3
    have H4:=H3.drew.box o
    have S4:=SR.of H4.less
    refine jC8 6 (by kernel_rfl) rfl rfl ?_
    refine jJn 48 rfl 9 30 _ rfl _ rfl hcv ?_
    clear H3 S3 hcv
    refine ⟨S4,?_⟩
    simp only [Act.put,lyA,lyB,lyC]
    refine jC8 11 (by kernel_rfl) rfl rfl ?_
    refine jCe 53 rfl (by go_simp) (HPT.out _ _ _ _ H4 (fun V h => hB V h.q.1)) ?_
    rintro e w5 ⟨rfl,P5,H5⟩
    refine ⟨_,rfl,?_⟩
    have H6:=H5.less
    have S6:=SR.of H6
    clear H4 H5 S4 hB
    refine ⟨S6,?_⟩
    simp only [Act.put,lyA,lyB,lyC]
    refine jC8 13 (by kernel_rfl) rfl rfl ?_
    refine jCe 55 rfl (by go_simp) (jKk p ((0 : Nat) : Int) w5) ?_
    rintro e w7 ⟨rfl,hg7⟩
    refine ⟨_,rfl,?_⟩
    have H7:=H6.step hg7
    have S7:=SR.of H7
    clear H6 hg7 S6
    refine ⟨S7,?_⟩
    simp only [Act.put,lyA,lyB,lyC]
    refine wpAnyH_done (by kernel_rfl) ?_ _
    change wpList _ _ _ _ _ _
    have H8:=H7.swap
    clear H7 S7
    go_wp2_with (refine stR_ (w.heap.size + 1 + 1 + 1) (jBc p ((0 : Nat) : Int)).1 none 0 rfl _ _ rfl rfl rfl H8.boxAt ?_;have H9:=H8.rsRow (jBc p ((0 : Nat) : Int)).1 none 0)
    exact jAj rfl H9.boxAt rfl (by rw [HR.out];exact jBg rfl ((jPx _ _).trans HPV.out) (by rw [jS7];exact H9.less.less.less.less))
   ·have hge : c.del ≤ (x : Int):=by omega
    have c1f : (x : Int) - c.del = (y : Int):=by
     rw [← HY.out]
     unfold jEa
     rw [if_neg (by rw [hop];decide),if_neg hlt]
    go_enter Tryz.func44,Tryz.ntmps44
    go_upto_region 1 with fail
    rw [jAi]
    generalize (((w.alloc (.cells (cmC c va vc) 33)).alloc (.cells (enC en) 35)).alloc (.cells (itC (jAe i ia ic)) 75)).alloc (.cells (rsC jAg none 0) 40) = W at *
    go_upto_region 9 with (go_at_call 80;refine (HD.out _).mono ?_;rintro e w1 ⟨rfl,rfl⟩;clear hcv)
    try rw [c1f]
    have H1:=H0
    clear H0 c1 d0 d6 HD
    have H2:=H1.drew
    have hS:=SR.of H2
    clear H1
    refine jE0 (S:=SR w.heap.size c.key i.fl i.exp en) 14 (by kernel_rfl) (by simp) (by kernel_rfl) ?_
    simp only [List.take_succ_cons,List.take_zero,List.drop_succ_cons,List.drop_zero]
    generalize w1.drew = W2 at *
    refine tkA 0 42 (v:=.pointer (some ⟨r,0,none⟩)) rfl rfl (by kernel_rfl) (fun _ _ _ h => h) (Or.inl ⟨by rfl,fun W hW => by go_simp⟩) hS ?_
    simp only [Act.put,lyA,lyB,lyC]
    refine tkA 1 43 (v:=.agg (enC en)) rfl rfl (by kernel_rfl) (fun _ _ _ h => h) (yieldsIf_load_mid (by rfl) 35 _ rfl (w.heap.size + 1) 0 rfl (enC en).toList _ (fun W hW => jL0 hW.en) Tryz.underlying35 rfl (by rw [jHs en,Array.length_toList])) hS ?_
    simp only [Act.put,lyA,lyB,lyC]
    refine tkA 2 44 (v:=.pointer (some ⟨w.heap.size,1,none⟩)) rfl rfl (by kernel_rfl) (fun _ _ _ h => h) (Or.inl ⟨by rfl,fun W hW => by go_simp⟩) hS ?_
    simp only [Act.put,lyA,lyB,lyC]
    refine tkA 3 45 (v:=.string c.key) rfl rfl (by kernel_rfl) (fun _ _ _ h => h) (Or.inl ⟨by rfl,fun W hW => by have h1:=hW.key;go_simp⟩) hS ?_
    simp only [Act.put,lyA,lyB,lyC]
    refine tkA 4 46 (v:=.int .u64 (y : Int)) rfl rfl (by kernel_rfl) (fun _ _ _ h => h) (Or.inl ⟨by rfl,fun W hW => by go_simp⟩) hS ?_
    simp only [Act.put,lyA,lyB,lyC]
    refine tkA 7 49 (v:=.pointer (some ⟨w.heap.size + 1 + 1,2,none⟩)) rfl rfl (by kernel_rfl) (fun _ _ _ h => h) (Or.inl ⟨by rfl,fun W hW => by go_simp⟩) hS ?_
    simp only [Act.put,lyA,lyB,lyC]
    refine tkA 8 50 (v:=.int .u32 i.fl) rfl rfl (by kernel_rfl) (fun _ _ _ h => h) (Or.inl ⟨by rfl,fun W hW => by have h1:=hW.fl;go_simp⟩) hS ?_
    simp only [Act.put,lyA,lyB,lyC]
    refine tkA 9 51 (v:=.pointer (some ⟨w.heap.size + 1 + 1,3,none⟩)) rfl rfl (by kernel_rfl) (fun _ _ _ h => h) (Or.inl ⟨by rfl,fun W hW => by go_simp⟩) hS ?_
    simp only [Act.put,lyA,lyB,lyC]
    refine tkA 10 52 (v:=.int .i64 i.exp) rfl rfl (by kernel_rfl) (fun _ _ _ h => h) (Or.inl ⟨by rfl,fun W hW => by have h1:=hW.exp;go_simp⟩) hS ?_
    simp only [Act.put,lyA,lyB,lyC]
    refine tkA 12 54 (v:=.int .u64 (y : Int)) rfl rfl (by kernel_rfl) (fun _ _ _ h => h) (Or.inl ⟨by rfl,fun W hW => by go_simp⟩) hS ?_
    simp only [Act.put,lyA,lyB,lyC]
    refine jC8 5 (by kernel_rfl) rfl rfl ?_
    refine jCe 47 rfl (by go_simp) (HSH.out W2) ?_
    rintro e w3 ⟨rfl,hb3⟩
    refine ⟨_,rfl,?_⟩
    have H3:=H2.step (jB9 hb3)
    have S3:=SR.of H3
    clear hb3 H2 hS
    refine ⟨S3,?_⟩
    simp only [Act.put,lyA,lyB,lyC]
    obtain ⟨C,o,hcv,hB⟩:=jJa (Lib.decDigits y) w3
    have H4:=H3.drew.box o
    have S4:=SR.of H4.less
    refine jC8 6 (by kernel_rfl) rfl rfl ?_
    refine jJn 48 rfl 9 30 _ rfl _ rfl hcv ?_
    clear H3 S3 hcv
    refine ⟨S4,?_⟩
    simp only [Act.put,lyA,lyB,lyC]
    refine jC8 11 (by kernel_rfl) rfl rfl ?_
    refine jCe 53 rfl (by go_simp) (HPT.out _ _ _ _ H4 (fun V h => hB V h.q.1)) ?_
    rintro e w5 ⟨rfl,P5,H5⟩
    refine ⟨_,rfl,?_⟩
    have H6:=H5.less
    have S6:=SR.of H6
    clear H4 H5 S4 hB
    refine ⟨S6,?_⟩
    simp only [Act.put,lyA,lyB,lyC]
    refine jC8 13 (by kernel_rfl) rfl rfl ?_
    refine jCe 55 rfl (by go_simp) (jKk p y w5) ?_
    rintro e w7 ⟨rfl,hg7⟩
    refine ⟨_,rfl,?_⟩
    have H7:=H6.step hg7
    have S7:=SR.of H7
    clear H6 hg7 S6
    refine ⟨S7,?_⟩
    simp only [Act.put,lyA,lyB,lyC]
    refine wpAnyH_done (by kernel_rfl) ?_ _
    change wpList _ _ _ _ _ _
    have H8:=H7.swap
    clear H7 S7
    go_wp2_with (refine stR_ (w.heap.size + 1 + 1 + 1) (jBc p y).1 none 0 rfl _ _ rfl rfl rfl H8.boxAt ?_;have H9:=H8.rsRow (jBc p y).1 none 0)
    exact jAj rfl H9.boxAt rfl (by rw [HR.out];exact jBg rfl ((jPx _ _).trans HPV.out) (by rw [jS7];exact H9.less.less.less.less))
end
end
section
set_option linter.unusedVariables false
set_option linter.unusedSimpArgs false
open Go.RowKit Go.Shelf Go.Sort
section
variable {w0 w : World} {A R : jAd} {r sd n : Nat} {P : Rp} {st : Hs} {c : Cv} {va : Option Addr} {vc : Nat} {en : En}
structure SM (g : Nat) (key : ByteArray) (ini : Int) (en : En) (W : World) : Prop where
 en : W.heap[g + 1]? = some (.cells (enC en) 35 (0,0))
 key : W.cell? ⟨g,1,none⟩ = some (.string key)
 ini : W.cell? ⟨g,7,none⟩ = some (.int .u64 ini)
theorem SM.of {g k : Nat} {o : Obj} (H : jAc w0 w r sd P st ((jAn k o).and ((EnP (g + 1) en).and ((CmP g c va vc).and R)))) : SM g c.key c.ini en w :=
 ⟨H.boxAt2,(jAf H.b3).2.1,(jAf H.b3).2.2.2.2.2.2.2.1⟩
theorem jAc.three (H : jAc w0 w r sd P st R) : jAc w0 (((w.alloc (.cells (cmC c va vc) 33)).alloc (.cells (enC en) 35)).alloc (.cells (rsC jAg none 0) 40)) r sd P st ((jEo (w.heap.size + 1 + 1) jAg none 0).and ((EnP (w.heap.size + 1) en).and ((CmP w.heap.size c va vc).and R))):=by
 have h:=((H.box (.cells (cmC c va vc) 33)).box (.cells (enC en) 35)).box (.cells (rsC jAg none 0) 40)
 rw [World.size_alloc,World.size_alloc] at h
 exact h
theorem kHw (H : jAc w0 w r sd P st R) (hg : jAo n st) (hn : n < 900) (hbud : I64 st.slab.bud) (hen : en.ok) (hc : c.ok) (he : T40 c.exp) (hno : N41 en.now) (hop : c.op = 0 ∨ c.op = 1 ∨ c.op = 2 ∨ c.op = 8 ∨ c.op = 9) : Calls Tryz.prog 36 #[.pointer (some ⟨r,0,none⟩),.agg (cmC c va vc),.agg (enC en)] w (jCo w0 r sd R (jAh 1,st)):=by
 have HA:=jAa (fun W => jHp (c:=c) (en:=en) he hno W)
 have H0:=H.three (c:=c) (va:=va) (vc:=vc) (en:=en)
 have hx:=jCm hc.exp hen.now
 clear H
 rcases hop with hop | hop | hop | hop | hop
 all_goals
  go_enter Tryz.func36,Tryz.ntmps36
  go_upto_region 1 with fail
  rw [jAi]
  generalize ((w.alloc (.cells (cmC c va vc) 33)).alloc (.cells (enC en) 35)).alloc (.cells (rsC jAg none 0) 40) = W at *
  have d0:=(jAf H0.b3).1
  have d4:=(jAf H0.b3).2.2.2.2.1
  have n0:=(jBx H0.boxAt2).1
  rw [hop] at d0
  clear hop
  go_wp2_with (first
   | (go_at_call 40;refine (HA.out _).mono ?_;rintro e w1 ⟨rfl,rfl⟩)
   | (go_at_call 33;refine (jCq 1 _).mono ?_;rintro e w5 ⟨rfl,hgr⟩;have H6:=H0.step hgr;clear hgr)
   | (refine stR_ (w.heap.size + 1 + 1) (jAh 1) none 0 rfl _ _ rfl rfl rfl H6.boxAt ?_;have H7:=H6.rsRow (jAh 1) none 0))
  exact jAj rfl H7.boxAt rfl (jBg rfl rfl H7.less.less.less)
theorem jVw (H : jAc w0 w r sd P st R) (hg : jAo n st) (hn : n < 900) (hbud : I64 st.slab.bud) (hen : en.ok) (hc : c.ok) (he : T40 c.exp) (hno : N41 en.now) (hop : c.op = 10 ∨ c.op = 11 ∨ c.op = 12) (hm : c.makes = false) : Calls Tryz.prog 36 #[.pointer (some ⟨r,0,none⟩),.agg (cmC c va vc),.agg (enC en)] w (jCo w0 r sd R (jAh 1,st)):=by
 have HA:=jAa (fun W => jHp (c:=c) (en:=en) he hno W)
 have H0:=H.three (c:=c) (va:=va) (vc:=vc) (en:=en)
 have hx:=jCm hc.exp hen.now
 clear H
 rcases hop with hop | hop | hop
 all_goals
  go_enter Tryz.func36,Tryz.ntmps36
  go_upto_region 1 with fail
  rw [jAi]
  generalize ((w.alloc (.cells (cmC c va vc) 33)).alloc (.cells (enC en) 35)).alloc (.cells (rsC jAg none 0) 40) = W at *
  have d0:=(jAf H0.b3).1
  have d4:=(jAf H0.b3).2.2.2.2.1
  have n0:=(jBx H0.boxAt2).1
  have d8:=(jAf H0.b3).2.2.2.2.2.2.2.2.1
  rw [hop] at d0
  rw [hm] at d8
  clear hop
  go_wp2_with (first
   | (go_at_call 40;refine (HA.out _).mono ?_;rintro e w1 ⟨rfl,rfl⟩)
   | (go_at_call 33;refine (jCq 1 _).mono ?_;rintro e w5 ⟨rfl,hgr⟩;have H6:=H0.step hgr;clear hgr)
   | (refine stR_ (w.heap.size + 1 + 1) (jAh 1) none 0 rfl _ _ rfl rfl rfl H6.boxAt ?_;have H7:=H6.rsRow (jAh 1) none 0))
  exact jAj rfl H7.boxAt rfl (jBg rfl rfl H7.less.less.less)
theorem kAr (H : jAc w0 w r sd P st R) (hg : jAo n st) (hn : n < 900) (hbud : I64 st.slab.bud) (hen : en.ok) (hc : c.ok) (he : T40 c.exp) (hno : N41 en.now) (hop : c.op = 5 ∨ c.op = 6 ∨ c.op = 7) : Calls Tryz.prog 36 #[.pointer (some ⟨r,0,none⟩),.agg (cmC c va vc),.agg (enC en)] w (jCo w0 r sd R (jAh 3,st)):=by
 have HA:=jAa (fun W => jHp (c:=c) (en:=en) he hno W)
 have H0:=H.three (c:=c) (va:=va) (vc:=vc) (en:=en)
 have hx:=jCm hc.exp hen.now
 clear H
 rcases hop with hop | hop | hop
 all_goals
  go_enter Tryz.func36,Tryz.ntmps36
  go_upto_region 1 with fail
  rw [jAi]
  generalize ((w.alloc (.cells (cmC c va vc) 33)).alloc (.cells (enC en) 35)).alloc (.cells (rsC jAg none 0) 40) = W at *
  have d0:=(jAf H0.b3).1
  have d4:=(jAf H0.b3).2.2.2.2.1
  have n0:=(jBx H0.boxAt2).1
  rw [hop] at d0
  clear hop
  go_wp2_with (first
   | (go_at_call 40;refine (HA.out _).mono ?_;rintro e w1 ⟨rfl,rfl⟩)
   | (go_at_call 33;refine (jCq 3 _).mono ?_;rintro e w5 ⟨rfl,hgr⟩;have H6:=H0.step hgr;clear hgr)
   | (refine stR_ (w.heap.size + 1 + 1) (jAh 3) none 0 rfl _ _ rfl rfl rfl H6.boxAt ?_;have H7:=H6.rsRow (jAh 3) none 0))
  exact jAj rfl H7.boxAt rfl (jBg rfl rfl H7.less.less.less)
theorem kGg (H : jAc w0 w r sd P st R) (hg : jAo n st) (hn : n < 900) (hbud : I64 st.slab.bud) (hen : en.ok) (hc : c.ok) (he : T40 c.exp) (hno : N41 en.now) (hop : c.op = 3) (hcas : c.cas ≠ 0) : Calls Tryz.prog 36 #[.pointer (some ⟨r,0,none⟩),.agg (cmC c va vc),.agg (enC en)] w (jCo w0 r sd R (jAh 1,st)):=by
 have HA:=jAa (fun W => jHp (c:=c) (en:=en) he hno W)
 have H0:=H.three (c:=c) (va:=va) (vc:=vc) (en:=en)
 have hx:=jCm hc.exp hen.now
 clear H
 have hcb : (c.cas != 0) = true:=by simpa using hcas
 go_enter Tryz.func36,Tryz.ntmps36
 go_upto_region 1 with fail
 rw [jAi]
 generalize ((w.alloc (.cells (cmC c va vc) 33)).alloc (.cells (enC en) 35)).alloc (.cells (rsC jAg none 0) 40) = W at *
 have d0:=(jAf H0.b3).1
 have d4:=(jAf H0.b3).2.2.2.2.1
 have n0:=(jBx H0.boxAt2).1
 have d5:=(jAf H0.b3).2.2.2.2.2.1
 rw [hop] at d0
 clear hop hcas
 go_wp2_with (first
  | (go_at_call 40;refine (HA.out _).mono ?_;rintro e w1 ⟨rfl,rfl⟩)
  | (go_at_call 33;refine (jCq 1 _).mono ?_;rintro e w5 ⟨rfl,hgr⟩;have H6:=H0.step hgr;clear hgr)
  | (refine stR_ (w.heap.size + 1 + 1) (jAh 1) none 0 rfl _ _ rfl rfl rfl H6.boxAt ?_;have H7:=H6.rsRow (jAh 1) none 0))
 exact jAj rfl H7.boxAt rfl (jBg rfl rfl H7.less.less.less)
theorem jUq (H : jAc w0 w r sd P st R) (hg : jAo n st) (hn : n < 900) (hbud : I64 st.slab.bud) (hen : en.ok) (hc : c.ok) (he : T40 c.exp) (hno : N41 en.now) (hrd : ∀ W,Law w0 W R → Bs W va c.val.length vc (jA6 c.val)) (hop : (c.op = 3 ∧ c.cas = 0) ∨ c.op = 4) : Calls Tryz.prog 36 #[.pointer (some ⟨r,0,none⟩),.agg (cmC c va vc),.agg (enC en)] w (jCo w0 r sd R (jBb sd st c.key c.val c.fl (atW c.exp en.now) en)):=by
 have HA:=jAa (fun W => jHp (c:=c) (en:=en) he hno W)
 have H0:=H.three (c:=c) (va:=va) (vc:=vc) (en:=en)
 have hx:=jCm hc.exp hen.now
 clear H
 obtain ⟨p,hp⟩ : ∃ p,jBb sd st c.key c.val c.fl (atW c.exp en.now) en = p:=⟨_,rfl⟩
 have HPV : Hid (p.1.val = []):=by show p.1.val = [];rw [← hp];exact jJb _ _ _ _ _ _ _
 have HP:=jAa (fun W (HW : jAc w0 W r sd P st ((jEo (w.heap.size + 1 + 1) jAg none 0).and ((EnP (w.heap.size + 1) en).and ((CmP w.heap.size c va vc).and R)))) => jJw (a:=va) (c:=vc) HW hg (Nat.le_of_lt hn) hbud hen c.key c.val c.fl (atW c.exp en.now) hc.key hc.val hx (fun V h => hrd V h.right.right.right) p hp)
 rw [hp]
 clear hp
 rcases hop with ⟨hop,hcas⟩ | hop
 ·go_enter Tryz.func36,Tryz.ntmps36
  go_upto_region 1 with fail
  rw [jAi]
  generalize ((w.alloc (.cells (cmC c va vc) 33)).alloc (.cells (enC en) 35)).alloc (.cells (rsC jAg none 0) 40) = W at *
  have d0:=(jAf H0.b3).1
  have d4:=(jAf H0.b3).2.2.2.2.1
  have n0:=(jBx H0.boxAt2).1
  obtain ⟨-,d1,d2,d3,-,d5,-,-,-,-⟩:=jAf H0.b3
  rw [hop] at d0
  rw [hcas] at d5
  clear hop hcas
  go_wp2_with (first
   | (go_at_call 40;refine (HA.out _).mono ?_;rintro e w1 ⟨rfl,rfl⟩)
   | (refine ldE (w.heap.size + 1) en rfl _ rfl rfl H0.boxAt2 ?_)
   | (go_at_call 39;refine (HP.out _ H0).mono ?_;rintro e w3 ⟨rfl,P3,H3⟩;clear HP H0 d0 d1 d2 d3 d4 d5 n0)
   | (refine stR_ (w.heap.size + 1 + 1) p.1 none 0 rfl _ _ rfl rfl rfl H3.boxAt ?_;have H7:=H3.rsRow p.1 none 0))
  exact jAj rfl H7.boxAt rfl (jBg rfl HPV.out H7.less.less.less)
 ·go_enter Tryz.func36,Tryz.ntmps36
  go_upto_region 1 with fail
  rw [jAi]
  generalize ((w.alloc (.cells (cmC c va vc) 33)).alloc (.cells (enC en) 35)).alloc (.cells (rsC jAg none 0) 40) = W at *
  have d0:=(jAf H0.b3).1
  have d4:=(jAf H0.b3).2.2.2.2.1
  have n0:=(jBx H0.boxAt2).1
  obtain ⟨-,d1,d2,d3,-,d5,-,-,-,-⟩:=jAf H0.b3
  rw [hop] at d0
  clear hop
  go_wp2_with (first
   | (go_at_call 40;refine (HA.out _).mono ?_;rintro e w1 ⟨rfl,rfl⟩)
   | (refine ldE (w.heap.size + 1) en rfl _ rfl rfl H0.boxAt2 ?_)
   | (go_at_call 39;refine (HP.out _ H0).mono ?_;rintro e w3 ⟨rfl,P3,H3⟩;clear HP H0 d0 d1 d2 d3 d4 d5 n0)
   | (refine stR_ (w.heap.size + 1 + 1) p.1 none 0 rfl _ _ rfl rfl rfl H3.boxAt ?_;have H7:=H3.rsRow p.1 none 0))
  exact jAj rfl H7.boxAt rfl (jBg rfl HPV.out H7.less.less.less)
theorem kE0 (H : jAc w0 w r sd P st R) (hg : jAo n st) (hn : n < 900) (hbud : I64 st.slab.bud) (hen : en.ok) (hc : c.ok) (he : T40 c.exp) (hno : N41 en.now) (hop : c.op = 12) (hm : c.makes = true) : Calls Tryz.prog 36 #[.pointer (some ⟨r,0,none⟩),.agg (cmC c va vc),.agg (enC en)] w (jCo w0 r sd R (jHr sd st c en)):=by
 have HA:=jAa (fun W => jHp (c:=c) (en:=en) he hno W)
 have H0:=H.three (c:=c) (va:=va) (vc:=vc) (en:=en)
 have hx:=jCm hc.exp hen.now
 clear H
 obtain ⟨q,hq⟩ : ∃ q,jHr sd st c en = q:=⟨_,rfl⟩
 have HW:=jAa (fun W (HW : jAc w0 W r sd P st ((jEo (w.heap.size + 1 + 1) jAg none 0).and ((EnP (w.heap.size + 1) en).and ((CmP w.heap.size c va vc).and R)))) => kI6 (c:=c) (va:=va) (vc:=vc) (en:=en) HW hg hn hbud hen hc he hno)
 rw [hq] at HW ⊢
 clear hq
 go_enter Tryz.func36,Tryz.ntmps36
 go_upto_region 1 with fail
 rw [jAi]
 generalize ((w.alloc (.cells (cmC c va vc) 33)).alloc (.cells (enC en) 35)).alloc (.cells (rsC jAg none 0) 40) = W at *
 have d0:=(jAf H0.b3).1
 have d4:=(jAf H0.b3).2.2.2.2.1
 have n0:=(jBx H0.boxAt2).1
 have d8:=(jAf H0.b3).2.2.2.2.2.2.2.2.1
 rw [hop] at d0
 rw [hm] at d8
 clear hop hm
 go_wp2_with (first
  | (go_at_call 40;refine (HA.out _).mono ?_;rintro e w1 ⟨rfl,rfl⟩)
  | (refine ldC w.heap.size c va vc rfl _ rfl rfl H0.b3 ?_)
  | (refine ldE (w.heap.size + 1) en rfl _ rfl rfl H0.boxAt2 ?_)
  | (go_at_call 74;refine (HW.out _ H0).mono ?_;rintro e w3 ⟨a3,c3,P3,rfl,H3⟩;clear HW H0 d0 d4 d8 n0;have H4:=H3.swap)
  | (refine stR_ (w.heap.size + 1 + 1) q.1 a3 c3 rfl _ _ rfl rfl rfl H4.boxAt ?_;have H7:=H4.rsRow q.1 a3 c3))
 exact jAj rfl H7.boxAt rfl ⟨a3,c3,P3,rfl,H7.less.swap.less.swap.less⟩
theorem kHq (H : jAc w0 w r sd P st R) (hg : jAo n st) (hn : n < 900) (hbud : I64 st.slab.bud) (hen : en.ok) (hc : c.ok) (he : T40 c.exp) (hno : N41 en.now) (hop : c.op = 10 ∨ c.op = 11) (hm : c.makes = true) : Calls Tryz.prog 36 #[.pointer (some ⟨r,0,none⟩),.agg (cmC c va vc),.agg (enC en)] w (jCo w0 r sd R (jBc (jBb sd st c.key (jCz c.ini) 0 (atW c.exp en.now) en) c.ini)):=by
 have HA:=jAa (fun W => jHp (c:=c) (en:=en) he hno W)
 have H0:=H.three (c:=c) (va:=va) (vc:=vc) (en:=en)
 have hx:=jCm hc.exp hen.now
 clear H
 obtain ⟨p,hp⟩ : ∃ p,jBb sd st c.key (jCz c.ini) 0 (atW c.exp en.now) en = p:=⟨_,rfl⟩
 have HPV : Hid (p.1.val = []):=by show p.1.val = [];rw [← hp];exact jJb _ _ _ _ _ _ _
 have hini:=hc.ini
 unfold U64 at hini
 obtain ⟨y,hy⟩ : ∃ y : Nat,c.ini = (y : Int):=Int.eq_ofNat_of_zero_le hini.1
 have hyb : y < 18446744073709551616:=by omega
 have hsl : (jCz c.ini).length ≤ 140737488351232:=by rw [hy];exact Nat.le_trans (jJf y hyb) (by decide)
 have HSH : Hid (∀ W,Calls Tryz.prog 73 #[.int .u64 c.ini] W fun e w' => e = .returned (.string ⟨(Lib.decDigits y).toArray⟩) ∧ Below W.heap.size W w'):=fun W => by rw [hy];exact jQu y hyb W
 have hsy : jCz c.ini = Lib.decDigits y:=by rw [hy];rfl
 rw [hsy] at hp hsl
 have HPT : Hid (∀ (W : World) (R' : jAd) (a' : Option Addr) (c' : Nat),jAc w0 W r sd P st R' → (∀ V,Law w0 V R' → Bs V a' (Lib.decDigits y).length c' (jA6 (Lib.decDigits y))) → Calls Tryz.prog 39 #[.pointer (some ⟨r,0,none⟩),.agg (enC en),.string c.key,.slice a' (Lib.decDigits y).length c',.int .u32 0,.int .i64 (atW c.exp en.now)] W fun e w' => e = .returned (.agg (rsC p.1 none 0)) ∧ ∃ P',jAc w0 w' r sd P' p.2 R'):=fun W R' a' c' HW hb => jJw (a:=a') (c:=c') HW hg (Nat.le_of_lt hn) hbud hen c.key (Lib.decDigits y) 0 (atW c.exp en.now) hc.key hsl hx hb p hp
 rw [hsy,hp]
 clear hp hsl hsy hini hy
 rcases hop with hop | hop
 all_goals
  go_enter Tryz.func36,Tryz.ntmps36
  go_upto_region 1 with fail
  rw [jAi]
  generalize ((w.alloc (.cells (cmC c va vc) 33)).alloc (.cells (enC en) 35)).alloc (.cells (rsC jAg none 0) 40) = W at *
  have d0:=(jAf H0.b3).1
  have d4:=(jAf H0.b3).2.2.2.2.1
  have n0:=(jBx H0.boxAt2).1
  have d8:=(jAf H0.b3).2.2.2.2.2.2.2.2.1
  rw [hop] at d0
  rw [hm] at d8
  clear hop
  go_upto_region 15 with (go_at_call 40;refine (HA.out _).mono ?_;rintro e w1 ⟨rfl,rfl⟩)
  have H1:=H0
  clear H0 d0 d4 d8 n0
  have H2:=H1.drew
  have hS:=SM.of H2
  clear H1
  refine jE0 (S:=SM w.heap.size c.key c.ini en) 13 (by kernel_rfl) (by simp) (by kernel_rfl) ?_
  simp only [List.take_succ_cons,List.take_zero,List.drop_succ_cons,List.drop_zero]
  generalize w1.drew = W2 at *
  refine tkA 0 47 (v:=.pointer (some ⟨r,0,none⟩)) rfl rfl (by kernel_rfl) (fun _ _ _ h => h) (Or.inl ⟨by rfl,fun W hW => by go_simp⟩) hS ?_
  simp only [Act.put,lyA,lyB,lyC]
  refine tkA 1 48 (v:=.agg (enC en)) rfl rfl (by kernel_rfl) (fun _ _ _ h => h) (yieldsIf_load_mid (by rfl) 35 _ rfl (w.heap.size + 1) 0 rfl (enC en).toList _ (fun W hW => jL0 hW.en) Tryz.underlying35 rfl (by rw [jHs en,Array.length_toList])) hS ?_
  simp only [Act.put,lyA,lyB,lyC]
  refine tkA 2 49 (v:=.pointer (some ⟨w.heap.size,1,none⟩)) rfl rfl (by kernel_rfl) (fun _ _ _ h => h) (Or.inl ⟨by rfl,fun W hW => by go_simp⟩) hS ?_
  simp only [Act.put,lyA,lyB,lyC]
  refine tkA 3 50 (v:=.string c.key) rfl rfl (by kernel_rfl) (fun _ _ _ h => h) (Or.inl ⟨by rfl,fun W hW => by have h1:=hW.key;go_simp⟩) hS ?_
  simp only [Act.put,lyA,lyB,lyC]
  refine tkA 4 51 (v:=.pointer (some ⟨w.heap.size,7,none⟩)) rfl rfl (by kernel_rfl) (fun _ _ _ h => h) (Or.inl ⟨by rfl,fun W hW => by go_simp⟩) hS ?_
  simp only [Act.put,lyA,lyB,lyC]
  refine tkA 5 52 (v:=.int .u64 c.ini) rfl rfl (by kernel_rfl) (fun _ _ _ h => h) (Or.inl ⟨by rfl,fun W hW => by have h1:=hW.ini;go_simp⟩) hS ?_
  simp only [Act.put,lyA,lyB,lyC]
  refine tkA 8 55 (v:=.int .i64 (atW c.exp en.now)) rfl rfl (by kernel_rfl) (fun _ _ _ h => h) (Or.inl ⟨by rfl,fun W hW => by go_simp⟩) hS ?_
  simp only [Act.put,lyA,lyB,lyC]
  refine tkA 10 57 (v:=.pointer (some ⟨w.heap.size,7,none⟩)) rfl rfl (by kernel_rfl) (fun _ _ _ h => h) (Or.inl ⟨by rfl,fun W hW => by go_simp⟩) hS ?_
  simp only [Act.put,lyA,lyB,lyC]
  refine tkA 11 58 (v:=.int .u64 c.ini) rfl rfl (by kernel_rfl) (fun _ _ _ h => h) (Or.inl ⟨by rfl,fun W hW => by have h1:=hW.ini;go_simp⟩) hS ?_
  simp only [Act.put,lyA,lyB,lyC]
  refine jC8 6 (by kernel_rfl) rfl rfl ?_
  refine jCe 53 rfl (by go_simp) (HSH.out W2) ?_
  rintro e w3 ⟨rfl,hb3⟩
  refine ⟨_,rfl,?_⟩
  have H3:=H2.step (jB9 hb3)
  have S3:=SM.of H3
  clear hb3 H2 hS
  refine ⟨S3,?_⟩
  simp only [Act.put,lyA,lyB,lyC]
  obtain ⟨C,o,hcv,hB⟩:=jJa (Lib.decDigits y) w3
  have H4:=H3.drew.box o
  have S4:=SM.of H4.less
  refine jC8 7 (by kernel_rfl) rfl rfl ?_
  refine jJn 54 rfl 9 30 _ rfl _ rfl hcv ?_
  clear H3 S3 hcv
  refine ⟨S4,?_⟩
  simp only [Act.put,lyA,lyB,lyC]
  refine jC8 9 (by kernel_rfl) rfl rfl ?_
  refine jCe 56 rfl (by go_simp) (HPT.out _ _ _ _ H4 (fun V h => hB V h.q.1)) ?_
  rintro e w5 ⟨rfl,P5,H5⟩
  refine ⟨_,rfl,?_⟩
  have H6:=H5.less
  have S6:=SM.of H6
  clear H4 H5 S4 hB
  refine ⟨S6,?_⟩
  simp only [Act.put,lyA,lyB,lyC]
  refine jC8 12 (by kernel_rfl) rfl rfl ?_
  refine jCe 59 rfl (by go_simp) (jKk p c.ini w5) ?_
  rintro e w7 ⟨rfl,hg7⟩
  refine ⟨_,rfl,?_⟩
  have H7:=H6.step hg7
  have S7:=SM.of H7
  clear H6 hg7 S6
  refine ⟨S7,?_⟩
  simp only [Act.put,lyA,lyB,lyC]
  refine wpAnyH_done (by kernel_rfl) ?_ _
  change wpList _ _ _ _ _ _
  clear S7
  go_wp2_with (refine stR_ (w.heap.size + 1 + 1) (jBc p c.ini).1 none 0 rfl _ _ rfl rfl rfl H7.boxAt ?_;have H9:=H7.rsRow (jBc p c.ini).1 none 0)
  exact jAj rfl H9.boxAt rfl (jBg rfl ((jPx _ _).trans HPV.out) (by rw [jS7];exact H9.less.less.less))
theorem kDm (H : jAc w0 w r sd P st R) (hg : jAo n st) (hn : n < 900) (hbud : I64 st.slab.bud) (hen : en.ok) (hc : c.ok) (he : T40 c.exp) (hno : N41 en.now) (hrd : ∀ W,Law w0 W R → Bs W va c.val.length vc (jA6 c.val)) (hop : 0 ≤ c.op ∧ c.op ≤ 12) : Calls Tryz.prog 36 #[.pointer (some ⟨r,0,none⟩),.agg (cmC c va vc),.agg (enC en)] w (jCo w0 r sd R (jAw sd st c en)):=by
 unfold jAw
 by_cases h3 : c.op = 3
 ·rw [if_pos h3]
  by_cases hz : c.cas = 0
  ·rw [if_pos hz]
   exact jUq H hg hn hbud hen hc he hno hrd (.inl ⟨h3,hz⟩)
  ·rw [if_neg hz]
   exact kGg H hg hn hbud hen hc he hno h3 hz
 ·rw [if_neg h3]
  by_cases h4 : c.op = 4
  ·rw [if_pos h4]
   exact jUq H hg hn hbud hen hc he hno hrd (.inr h4)
  ·rw [if_neg h4]
   by_cases h5 : c.op = 5 ∨ c.op = 6 ∨ c.op = 7
   ·rw [if_pos h5]
    exact kAr H hg hn hbud hen hc he hno h5
   ·rw [if_neg h5]
    by_cases h10 : c.op = 10 ∨ c.op = 11
    ·rw [if_pos h10]
     cases hm : c.makes with
     | true => exact kHq H hg hn hbud hen hc he hno h10 hm
     | false => exact jVw H hg hn hbud hen hc he hno (h10.imp id .inl) hm
    ·rw [if_neg h10]
     by_cases h12 : c.op = 12
     ·rw [if_pos h12]
      cases hm : c.makes with
      | true => exact kE0 H hg hn hbud hen hc he hno h12 hm
      | false => exact jVw H hg hn hbud hen hc he hno (.inr (.inr h12)) hm
     ·rw [if_neg h12]
      exact kHw H hg hn hbud hen hc he hno (by omega)
end
end
section
set_option linter.unusedVariables false
set_option linter.unusedSimpArgs false
open Go.RowKit Go.Shelf Go.Sort
section
variable {w0 w : World} {A R : jAd} {r sd n : Nat} {P : Rp} {st : Hs} {c : Cv} {va : Option Addr} {vc : Nat} {en : En}
theorem kJz (H : jAc w0 w r sd P st R) (hg : jAo n st) (hn : n ≤ 900) (key : ByteArray) (hy : jAp st key en = none) :
  Calls Tryz.prog 34 #[.pointer (some ⟨r,0,none⟩),.string key,.agg (enC en)] w fun e w' => e = .returned (.tuple #[.agg (itC jBw),.bool false]) ∧ ∃ P',jAc w0 w' r sd P' (jAy st key en) R:=by
 refine (jK7 H hg hn key en _ rfl).mono ?_
 rintro e w' ⟨P',H',⟨_,h2⟩ | ⟨x,_,h1,_⟩⟩
 ·exact ⟨h2,P',H'⟩
 ·rw [h1] at hy
  cases hy
theorem jFp (H : jAc w0 w r sd P st R) (hg : jAo n st) (hn : n ≤ 900) (key : ByteArray) (y : Ent) (hy : jAp st key en = some y) :
  Calls Tryz.prog 34 #[.pointer (some ⟨r,0,none⟩),.string key,.agg (enC en)] w fun e w' => ∃ x : Re,y = x.ent ∧ e = .returned (.tuple #[.agg (itC (jAe x.t.iv x.t.a x.t.c)),.bool true]) ∧ ∃ P',x ∈ P'.es ∧ jAc w0 w' r sd P' (jAy st key en) R:=by
 refine (jK7 H hg hn key en _ rfl).mono ?_
 rintro e w' ⟨P',H',⟨h1,_⟩ | ⟨x,hx,h1,h2⟩⟩
 ·rw [h1] at hy
  cases hy
 ·rw [h1] at hy
  cases hy
  exact ⟨x,rfl,h2,P',hx,H'⟩
structure SD (g : Nat) (c : Cv) (va : Option Addr) (vc : Nat) (en : En) (W : World) : Prop where
 en : W.heap[g + 1]? = some (.cells (enC en) 35 (0,0))
 cm : W.heap[g]? = some (.cells (cmC c va vc) 33 (0,0))
theorem SD.of {g : Nat} {B C : jAd} (H : jAc w0 w r sd P st (B.and (C.and ((EnP (g + 1) en).and ((CmP g c va vc).and R))))) : SD g c va vc en w:=⟨H.b3,H.b4⟩
theorem kNr (H : jAc w0 w r sd P st R) (hg : jAo n st) (hn : n < 900) (hbud : I64 st.slab.bud) (hen : en.ok) (hc : c.ok) (he : T40 c.exp) (hno : N41 en.now) (hk : jCc c.op = false) : Calls Tryz.prog 11 #[.pointer (some ⟨r,0,none⟩),.agg (cmC c va vc),.agg (enC en)] w (jCo w0 r sd R (doH sd st c en)):=by
 have hr : doH sd st c en = ((if c.op = 15 then jAh 11 else jAh 10),st):=by
  unfold doH
  split
  ·rfl
  ·rw [if_neg (by rw [hk];exact Bool.false_ne_true)]
 rw [hr]
 have H0:=H.three (c:=c) (va:=va) (vc:=vc) (en:=en)
 have HK:=jAa (fun W => jDn c.op W)
 rw [hk] at HK
 clear H hr
 by_cases h15 : c.op = 15
 ·rw [if_pos h15]
  go_enter Tryz.func11,Tryz.ntmps11
  go_upto_region 1 with fail
  rw [jAi]
  generalize ((w.alloc (.cells (cmC c va vc) 33)).alloc (.cells (enC en) 35)).alloc (.cells (rsC jAg none 0) 40) = W at *
  have d0:=(jAf H0.b3).1
  rw [h15] at d0
  go_wp2_with (first
   | (go_at_call 33;refine (jCq 11 _).mono ?_;rintro e w9 ⟨rfl,hgr⟩;have H10:=(H0.step hgr);clear hgr)
   | (refine stR_ (w.heap.size + 1 + 1) (jAh 11) none 0 rfl _ _ rfl rfl rfl H10.boxAt ?_;have H11:=H10.rsRow (jAh 11) none 0))
  exact jAj rfl H11.boxAt rfl (jBg rfl rfl H11.less.less.less)
 ·rw [if_neg h15]
  have hb:=beq_eq_false_iff_ne.2 h15
  clear h15
  go_enter Tryz.func11,Tryz.ntmps11
  go_upto_region 1 with fail
  rw [jAi]
  generalize ((w.alloc (.cells (cmC c va vc) 33)).alloc (.cells (enC en) 35)).alloc (.cells (rsC jAg none 0) 40) = W at *
  have d0:=(jAf H0.b3).1
  go_wp2_with (first
   | (go_at_call 14;refine (HK.out _).mono ?_;rintro e w1 ⟨rfl,rfl⟩)
   | (go_at_call 33;refine (jCq 10 _).mono ?_;rintro e w9 ⟨rfl,hgr⟩;have H10:=(H0.step hgr);clear hgr)
   | (refine stR_ (w.heap.size + 1 + 1) (jAh 10) none 0 rfl _ _ rfl rfl rfl H10.boxAt ?_;have H11:=H10.rsRow (jAh 10) none 0))
  exact jAj rfl H11.boxAt rfl (jBg rfl rfl H11.less.less.less)
theorem kLz (H : jAc w0 w r sd P st R) (hg : jAo n st) (hn : n < 900) (hbud : I64 st.slab.bud) (hen : en.ok) (hc : c.ok) (he : T40 c.exp) (hno : N41 en.now) (hrd : ∀ W,Law w0 W R → Bs W va c.val.length vc (jA6 c.val)) (hk : jCc c.op = true) (hlv : jAp st c.key en = none) : Calls Tryz.prog 11 #[.pointer (some ⟨r,0,none⟩),.agg (cmC c va vc),.agg (enC en)] w (jCo w0 r sd R (doH sd st c en)):=by
 have hop:=of_decide_eq_true hk
 have hr : doH sd st c en = jAw sd (jCy sd st c.key en) c en:=by
  unfold doH
  rw [if_neg (by omega),if_pos hk,hlv]
 rw [hr]
 have hgl:=jCf hg c.key en
 have hgT:=jD3 hgl sd c.key
 have hbT : I64 (jCy sd st c.key en).slab.bud:=by rw [jFh];exact hbud
 obtain ⟨T,hT⟩ : ∃ T,jCy sd st c.key en = T:=⟨_,rfl⟩
 have hTU : jGt sd (jAy st c.key en) c.key = T:=hT
 rw [hTU] at hgT
 rw [hT] at hbT ⊢
 have HMK:=jAa (fun W (P' : Rp) (R' : jAd) (HW : jAc w0 W r sd P' T R') (hrd' : ∀ V,Law w0 V R' → Bs V va c.val.length vc (jA6 c.val)) => kDm (c:=c) (va:=va) (vc:=vc) (en:=en) HW hgT hn hbT hen hc he hno hrd' hop)
 obtain ⟨q,hq⟩ : ∃ q,jAw sd T c en = q:=⟨_,rfl⟩
 rw [hq] at HMK ⊢
 have H0:=H.three (c:=c) (va:=va) (vc:=vc) (en:=en)
 have HK:=jAa (fun W => jDn c.op W)
 rw [hk] at HK
 have HT:=jAa hTU
 have HLV:=jAa hlv
 have h15 : (c.op == 15) = false:=beq_eq_false_iff_ne.2 (by omega)
 have hnn:=Nat.le_of_lt hn
 have hck:=hc.key
 clear H hr hT hTU hk hlv hq hop
 go_enter Tryz.func11,Tryz.ntmps11
 go_upto_region 1 with fail
 rw [jAi]
 generalize ((w.alloc (.cells (cmC c va vc) 33)).alloc (.cells (enC en) 35)).alloc (.cells (rsC jAg none 0) 40) = W at *
 have d0:=(jAf H0.b3).1
 have d1:=(jAf H0.b3).2.1
 go_wp2_with (first
  | (go_at_call 14;refine (HK.out _).mono ?_;rintro e w1 ⟨rfl,rfl⟩)
  | (refine ldE (w.heap.size + 1) en rfl _ rfl rfl H0.boxAt2 ?_)
  | (go_at_call 34;refine (kJz H0 hg hnn c.key HLV.out).mono ?_;rintro e w2 ⟨rfl,P2,H2⟩;have H3:=H2.box (.cells (itC jBw) 75);clear H0 H2 d0 d1)
  | (refine stI w2.heap.size jBw rfl _ _ rfl rfl rfl (World.alloc_heap_new w2 _) ?_;rw [jAq];generalize w2.alloc (.cells (itC jBw) 75) = w3 at *;have d3:=(jAf H3.b4).2.1;have H4:=H3.less;clear H3)
  | (go_at_call 35;refine (jFx H4 hgl hnn c.key hck _ HT.out).mono ?_;rintro e w5 ⟨⟨v5,rfl⟩,P5,-,H5⟩;clear H4 d3)
  | (refine ldC w.heap.size c va vc rfl _ rfl rfl H5.b3 ?_)
  | (refine ldE (w.heap.size + 1) en rfl _ rfl rfl H5.boxAt2 ?_)
  | (go_at_call 36;refine (HMK.out _ _ _ H5 (fun V h => hrd V h.right.right.right)).mono ?_;rintro e w8 ⟨a8,c8,P8,rfl,H8⟩;have H9:=H8.swap;clear H8 H5)
  | (refine stR_ (w.heap.size + 1 + 1) q.1 a8 c8 rfl _ _ rfl rfl rfl H9.boxAt ?_;have H10:=H9.rsRow q.1 a8 c8))
 exact jAj rfl H10.boxAt rfl ⟨a8,c8,P8,rfl,H10.less.swap.less.swap.less⟩
theorem kHh (H : jAc w0 w r sd P st R) (hg : jAo n st) (hn : n < 900) (hbud : I64 st.slab.bud) (hen : en.ok) (hc : c.ok) (he : T40 c.exp) (hno : N41 en.now) (hrd : ∀ W,Law w0 W R → Bs W va c.val.length vc (jA6 c.val)) (hcv : c.val.length ≤ 3000) (y : Ent) (hlv : jAp st c.key en = some y) (T : Hs) (hTU : jGt sd (jAy st c.key en) c.key = T) (hop : c.op = 0 ∨ c.op = 1 ∨ c.op = 2) : Calls Tryz.prog 11 #[.pointer (some ⟨r,0,none⟩),.agg (cmC c va vc),.agg (enC en)] w (jCo w0 r sd R (jC3 sd T c en y.1)):=by
 have hgl:=jCf hg c.key en
 have hgT:=jD3 hgl sd c.key
 rw [hTU] at hgT
 have hbT : I64 T.slab.bud:=by rw [← hTU];have h:=jFh sd st c.key en;unfold jCy at h;rw [h];exact hbud
 have H0:=H.three (c:=c) (va:=va) (vc:=vc) (en:=en)
 have HK:=jAa (fun W => jDn c.op W)
 have HT:=jAa hTU
 have HLV:=jAa hlv
 have hnn:=Nat.le_of_lt hn
 have hck:=hc.key
 clear H hTU hlv
 have HOP:=jAa hop
 rcases hop with hop | hop | hop
 all_goals
  go_enter Tryz.func11,Tryz.ntmps11
  go_upto_region 1 with fail
  rw [jAi]
  generalize ((w.alloc (.cells (cmC c va vc) 33)).alloc (.cells (enC en) 35)).alloc (.cells (rsC jAg none 0) 40) = W at *
  have d0:=(jAf H0.b3).1
  have d1:=(jAf H0.b3).2.1
  rw [show jCc c.op = true by rw [hop];decide] at HK
  rw [hop] at d0 HK
  go_upto_region 8 with (first
   | (go_at_call 14;refine (HK.out _).mono ?_;rintro e w1 ⟨rfl,rfl⟩)
   | (refine ldE (w.heap.size + 1) en rfl _ rfl rfl H0.boxAt2 ?_)
   | (go_at_call 34;refine (jFp H0 hg hnn c.key y HLV.out).mono ?_;rintro e w2 ⟨x,rfl,rfl,P2,hx2,H2⟩;have H3:=H2.box (.cells (itC (jAe x.t.iv x.t.a x.t.c)) 75);clear H0 H2 d0 d1)
   | (refine stI w2.heap.size (jAe x.t.iv x.t.a x.t.c) rfl _ _ rfl rfl rfl (World.alloc_heap_new w2 _) ?_;rw [jAq];generalize w2.alloc (.cells (itC (jAe x.t.iv x.t.a x.t.c)) 75) = w3 at *;have d3:=(jAf H3.b4).2.1)
   | (go_at_call 35;refine (jFx H3 hgl hnn c.key hck _ HT.out).mono ?_;rintro e w5 ⟨⟨v5,rfl⟩,P5,hes,H5⟩;clear H3 d3))
  obtain ⟨gi,hgi⟩ : ∃ gi,w2.heap.size = gi:=⟨_,rfl⟩
  rw [hgi] at H5 ⊢
  have hx : x ∈ P5.es:=by rw [hes];exact hx2
  have hxT : x.ent ∈ T.ents:=by rw [← H5.ents];exact List.mem_map.2 ⟨x,hx,rfl⟩
  have hi : x.t.iv.ok:=(hgT.cls _ hxT).1
  have hv : x.t.iv.val.length ≤ 3000:=hgT.val hxT
  clear hgi hx2 hes hxT HK HT HLV hgl hck
  have d0:=(jAf H5.b4).1
  rw [hop] at d0
  go_wp2_with (first
   | (refine ldC w.heap.size c va vc rfl _ rfl rfl H5.b4 ?_)
   | (refine ldE (w.heap.size + 1) en rfl _ rfl rfl H5.b3 ?_)
   | (refine ldI gi (jAe x.t.iv x.t.a x.t.c) rfl _ rfl rfl H5.boxAt ?_)
   | (go_at_call 37;refine (kHn (x:=x) (c:=c) (va:=va) (vc:=vc) (en:=en) H5 hgT hnn hx hi hv hen he hno hc.exp HOP.out).mono ?_;rintro e w8 ⟨a8,c8,P8,rfl,H8⟩;have H9:=H8.swap.less.swap;clear H8 H5)
   | (refine stR_ (w.heap.size + 1 + 1) (jC3 sd T c en x.t.iv).1 a8 c8 rfl _ _ rfl rfl rfl H9.boxAt ?_;have H10:=H9.rsRow (jC3 sd T c en x.t.iv).1 a8 c8))
  exact jAj rfl H10.boxAt rfl ⟨a8,c8,P8,rfl,H10.less.swap.less.swap.less⟩
theorem kIl (H : jAc w0 w r sd P st R) (hg : jAo n st) (hn : n < 900) (hbud : I64 st.slab.bud) (hen : en.ok) (hc : c.ok) (he : T40 c.exp) (hno : N41 en.now) (hrd : ∀ W,Law w0 W R → Bs W va c.val.length vc (jA6 c.val)) (hcv : c.val.length ≤ 3000) (y : Ent) (hlv : jAp st c.key en = some y) (T : Hs) (hTU : jGt sd (jAy st c.key en) c.key = T) (hop : c.op = 12) : Calls Tryz.prog 11 #[.pointer (some ⟨r,0,none⟩),.agg (cmC c va vc),.agg (enC en)] w (jCo w0 r sd R ({ jA8 (jC2 c en y.1) en with lost:=y.1.won,won:=!y.1.won && y.1.st },jBa T { jC2 c en y.1 with won:=y.1.won || y.1.st })):=by
 have hgl:=jCf hg c.key en
 have hgT:=jD3 hgl sd c.key
 rw [hTU] at hgT
 have hbT : I64 T.slab.bud:=by rw [← hTU];have h:=jFh sd st c.key en;unfold jCy at h;rw [h];exact hbud
 have H0:=H.three (c:=c) (va:=va) (vc:=vc) (en:=en)
 have HK:=jAa (fun W => jDn c.op W)
 have HT:=jAa hTU
 have HLV:=jAa hlv
 have hnn:=Nat.le_of_lt hn
 have hck:=hc.key
 clear H hTU hlv
 go_enter Tryz.func11,Tryz.ntmps11
 go_upto_region 1 with fail
 rw [jAi]
 generalize ((w.alloc (.cells (cmC c va vc) 33)).alloc (.cells (enC en) 35)).alloc (.cells (rsC jAg none 0) 40) = W at *
 have d0:=(jAf H0.b3).1
 have d1:=(jAf H0.b3).2.1
 rw [show jCc c.op = true by rw [hop];decide] at HK
 rw [hop] at d0 HK
 go_upto_region 8 with (first
  | (go_at_call 14;refine (HK.out _).mono ?_;rintro e w1 ⟨rfl,rfl⟩)
  | (refine ldE (w.heap.size + 1) en rfl _ rfl rfl H0.boxAt2 ?_)
  | (go_at_call 34;refine (jFp H0 hg hnn c.key y HLV.out).mono ?_;rintro e w2 ⟨x,rfl,rfl,P2,hx2,H2⟩;have H3:=H2.box (.cells (itC (jAe x.t.iv x.t.a x.t.c)) 75);clear H0 H2 d0 d1)
  | (refine stI w2.heap.size (jAe x.t.iv x.t.a x.t.c) rfl _ _ rfl rfl rfl (World.alloc_heap_new w2 _) ?_;rw [jAq];generalize w2.alloc (.cells (itC (jAe x.t.iv x.t.a x.t.c)) 75) = w3 at *;have d3:=(jAf H3.b4).2.1)
  | (go_at_call 35;refine (jFx H3 hgl hnn c.key hck _ HT.out).mono ?_;rintro e w5 ⟨⟨v5,rfl⟩,P5,hes,H5⟩;clear H3 d3))
 obtain ⟨gi,hgi⟩ : ∃ gi,w2.heap.size = gi:=⟨_,rfl⟩
 rw [hgi] at H5 ⊢
 have hx : x ∈ P5.es:=by rw [hes];exact hx2
 have hxT : x.ent ∈ T.ents:=by rw [← H5.ents];exact List.mem_map.2 ⟨x,hx,rfl⟩
 have hi : x.t.iv.ok:=(hgT.cls _ hxT).1
 have hv : x.t.iv.val.length ≤ 3000:=hgT.val hxT
 clear hgi hx2 hes hxT HK HT HLV hgl hck
 have d0:=(jAf H5.b4).1
 rw [hop] at d0
 have HM:=jAa (kHk (x:=x) (c:=c) (va:=va) (vc:=vc) (en:=en) H5 hgT hnn hx hi hv hen he hno hc.exp)
 obtain ⟨q,hq⟩ : ∃ q : Rv × Hs,({ jA8 (jC2 c en x.t.iv) en with lost:=x.t.iv.won,won:=!x.t.iv.won && x.t.iv.st },jBa T { jC2 c en x.t.iv with won:=x.t.iv.won || x.t.iv.st }) = q:=⟨_,rfl⟩
 have HQ:=jAa hq
 rw [hq] at HM
 clear hq
 go_wp2_with (first
  | (refine ldC w.heap.size c va vc rfl _ rfl rfl H5.b4 ?_)
  | (refine ldE (w.heap.size + 1) en rfl _ rfl rfl H5.b3 ?_)
  | (refine ldI gi (jAe x.t.iv x.t.a x.t.c) rfl _ rfl rfl H5.boxAt ?_)
  | (go_at_call 38;refine (HM.out).mono ?_;rintro e w8 ⟨a8,c8,P8,rfl,H8⟩;have H9:=H8.swap.less.swap;clear H8 H5)
  | (refine stR_ (w.heap.size + 1 + 1) (q).1 a8 c8 rfl _ _ rfl rfl rfl H9.boxAt ?_;have H10:=H9.rsRow (q).1 a8 c8))
 exact jAj rfl H10.boxAt rfl (by show jCo w0 r sd R ({ jA8 (jC2 c en x.t.iv) en with lost:=x.t.iv.won,won:=!x.t.iv.won && x.t.iv.st },jBa T { jC2 c en x.t.iv with won:=x.t.iv.won || x.t.iv.st }) _ _;rw [HQ.out];exact ⟨a8,c8,P8,rfl,H10.less.swap.less.swap.less⟩)
theorem kI2 (H : jAc w0 w r sd P st R) (hg : jAo n st) (hn : n < 900) (hbud : I64 st.slab.bud) (hen : en.ok) (hc : c.ok) (he : T40 c.exp) (hno : N41 en.now) (hrd : ∀ W,Law w0 W R → Bs W va c.val.length vc (jA6 c.val)) (hcv : c.val.length ≤ 3000) (y : Ent) (hlv : jAp st c.key en = some y) (T : Hs) (hTU : jGt sd (jAy st c.key en) c.key = T) (hop : c.op = 4) : Calls Tryz.prog 11 #[.pointer (some ⟨r,0,none⟩),.agg (cmC c va vc),.agg (enC en)] w (jCo w0 r sd R (jAh 3,T)):=by
 have hgl:=jCf hg c.key en
 have hgT:=jD3 hgl sd c.key
 rw [hTU] at hgT
 have hbT : I64 T.slab.bud:=by rw [← hTU];have h:=jFh sd st c.key en;unfold jCy at h;rw [h];exact hbud
 have H0:=H.three (c:=c) (va:=va) (vc:=vc) (en:=en)
 have HK:=jAa (fun W => jDn c.op W)
 have HT:=jAa hTU
 have HLV:=jAa hlv
 have hnn:=Nat.le_of_lt hn
 have hck:=hc.key
 clear H hTU hlv
 go_enter Tryz.func11,Tryz.ntmps11
 go_upto_region 1 with fail
 rw [jAi]
 generalize ((w.alloc (.cells (cmC c va vc) 33)).alloc (.cells (enC en) 35)).alloc (.cells (rsC jAg none 0) 40) = W at *
 have d0:=(jAf H0.b3).1
 have d1:=(jAf H0.b3).2.1
 rw [show jCc c.op = true by rw [hop];decide] at HK
 rw [hop] at d0 HK
 go_upto_region 8 with (first
  | (go_at_call 14;refine (HK.out _).mono ?_;rintro e w1 ⟨rfl,rfl⟩)
  | (refine ldE (w.heap.size + 1) en rfl _ rfl rfl H0.boxAt2 ?_)
  | (go_at_call 34;refine (jFp H0 hg hnn c.key y HLV.out).mono ?_;rintro e w2 ⟨x,rfl,rfl,P2,hx2,H2⟩;have H3:=H2.box (.cells (itC (jAe x.t.iv x.t.a x.t.c)) 75);clear H0 H2 d0 d1)
  | (refine stI w2.heap.size (jAe x.t.iv x.t.a x.t.c) rfl _ _ rfl rfl rfl (World.alloc_heap_new w2 _) ?_;rw [jAq];generalize w2.alloc (.cells (itC (jAe x.t.iv x.t.a x.t.c)) 75) = w3 at *;have d3:=(jAf H3.b4).2.1)
  | (go_at_call 35;refine (jFx H3 hgl hnn c.key hck _ HT.out).mono ?_;rintro e w5 ⟨⟨v5,rfl⟩,P5,hes,H5⟩;clear H3 d3))
 obtain ⟨gi,hgi⟩ : ∃ gi,w2.heap.size = gi:=⟨_,rfl⟩
 rw [hgi] at H5 ⊢
 have hx : x ∈ P5.es:=by rw [hes];exact hx2
 have hxT : x.ent ∈ T.ents:=by rw [← H5.ents];exact List.mem_map.2 ⟨x,hx,rfl⟩
 have hi : x.t.iv.ok:=(hgT.cls _ hxT).1
 have hv : x.t.iv.val.length ≤ 3000:=hgT.val hxT
 clear hgi hx2 hes hxT HK HT HLV hgl hck
 have d0:=(jAf H5.b4).1
 rw [hop] at d0
 go_wp2_with (first
  | (go_at_call 33;refine (jCq 3 _).mono ?_;rintro e w9 ⟨rfl,hgr⟩;have H10:=(H5.step hgr).less;clear hgr)
  | (refine stR_ (w.heap.size + 1 + 1) (jAh 3) none 0 rfl _ _ rfl rfl rfl H10.boxAt ?_;have H11:=H10.rsRow (jAh 3) none 0))
 exact jAj rfl H11.boxAt rfl (jBg rfl rfl H11.less.less.less)
end
end
section
set_option linter.unusedVariables false
set_option linter.unusedSimpArgs false
open Go.RowKit Go.Shelf Go.Sort
section
variable {w0 w : World} {A R : jAd} {r sd n : Nat} {P : Rp} {st : Hs} {c : Cv} {va : Option Addr} {vc : Nat} {en : En}
theorem jZq (H : jAc w0 w r sd P st R) (hg : jAo n st) (hn : n < 900) (hbud : I64 st.slab.bud) (hen : en.ok) (hc : c.ok) (he : T40 c.exp) (hno : N41 en.now) (hrd : ∀ W,Law w0 W R → Bs W va c.val.length vc (jA6 c.val)) (hcv : c.val.length ≤ 3000) (y : Ent) (hlv : jAp st c.key en = some y) (T : Hs) (hTU : jGt sd (jAy st c.key en) c.key = T) (hcas : c.cas ≠ 0 ∧ c.cas ≠ y.1.cas) (hop : c.op = 3 ∨ c.op = 5 ∨ c.op = 6 ∨ c.op = 7 ∨ c.op = 8 ∨ c.op = 9 ∨ c.op = 10 ∨ c.op = 11) : Calls Tryz.prog 11 #[.pointer (some ⟨r,0,none⟩),.agg (cmC c va vc),.agg (enC en)] w (jCo w0 r sd R (jAh 4,T)):=by
 have hgl:=jCf hg c.key en
 have hgT:=jD3 hgl sd c.key
 rw [hTU] at hgT
 have hbT : I64 T.slab.bud:=by rw [← hTU];have h:=jFh sd st c.key en;unfold jCy at h;rw [h];exact hbud
 have H0:=H.three (c:=c) (va:=va) (vc:=vc) (en:=en)
 have HK:=jAa (fun W => jDn c.op W)
 have HT:=jAa hTU
 have HLV:=jAa hlv
 have hnn:=Nat.le_of_lt hn
 have hck:=hc.key
 clear H hTU hlv
 have HOP:=jAa hop
 rcases hop with hop | hop | hop | hop | hop | hop | hop | hop
 all_goals
  go_enter Tryz.func11,Tryz.ntmps11
  go_upto_region 1 with fail
  rw [jAi]
  generalize ((w.alloc (.cells (cmC c va vc) 33)).alloc (.cells (enC en) 35)).alloc (.cells (rsC jAg none 0) 40) = W at *
  have d0:=(jAf H0.b3).1
  have d1:=(jAf H0.b3).2.1
  rw [show jCc c.op = true by rw [hop];decide] at HK
  rw [hop] at d0 HK
  go_upto_region 8 with (first
   | (go_at_call 14;refine (HK.out _).mono ?_;rintro e w1 ⟨rfl,rfl⟩)
   | (refine ldE (w.heap.size + 1) en rfl _ rfl rfl H0.boxAt2 ?_)
   | (go_at_call 34;refine (jFp H0 hg hnn c.key y HLV.out).mono ?_;rintro e w2 ⟨x,rfl,rfl,P2,hx2,H2⟩;have H3:=H2.box (.cells (itC (jAe x.t.iv x.t.a x.t.c)) 75);clear H0 H2 d0 d1)
   | (refine stI w2.heap.size (jAe x.t.iv x.t.a x.t.c) rfl _ _ rfl rfl rfl (World.alloc_heap_new w2 _) ?_;rw [jAq];generalize w2.alloc (.cells (itC (jAe x.t.iv x.t.a x.t.c)) 75) = w3 at *;have d3:=(jAf H3.b4).2.1)
   | (go_at_call 35;refine (jFx H3 hgl hnn c.key hck _ HT.out).mono ?_;rintro e w5 ⟨⟨v5,rfl⟩,P5,hes,H5⟩;clear H3 d3))
  obtain ⟨gi,hgi⟩ : ∃ gi,w2.heap.size = gi:=⟨_,rfl⟩
  rw [hgi] at H5 ⊢
  have hx : x ∈ P5.es:=by rw [hes];exact hx2
  have hxT : x.ent ∈ T.ents:=by rw [← H5.ents];exact List.mem_map.2 ⟨x,hx,rfl⟩
  have hi : x.t.iv.ok:=(hgT.cls _ hxT).1
  have hv : x.t.iv.val.length ≤ 3000:=hgT.val hxT
  clear hgi hx2 hes hxT HK HT HLV hgl hck
  have d0:=(jAf H5.b4).1
  rw [hop] at d0
  have k5:=(jAf H5.b4).2.2.2.2.2.1
  have q4:=(jAk H5.boxAt).2.2.2.2.1
  change _ = some (Value.int .u64 x.t.iv.cas) at q4
  have hz : (c.cas != 0) = true:=by simpa using hcas.1
  have hz2 : (c.cas != x.t.iv.cas) = true:=by simpa using (show c.cas ≠ x.t.iv.cas from hcas.2)
  go_wp2_with (first
   | (go_at_call 33;refine (jCq 4 _).mono ?_;rintro e w9 ⟨rfl,hgr⟩;have H10:=(H5.step hgr).less;clear hgr)
   | (refine stR_ (w.heap.size + 1 + 1) (jAh 4) none 0 rfl _ _ rfl rfl rfl H10.boxAt ?_;have H11:=H10.rsRow (jAh 4) none 0))
  exact jAj rfl H11.boxAt rfl (jBg rfl rfl H11.less.less.less)
end
end
section
set_option linter.unusedVariables false
set_option linter.unusedSimpArgs false
open Go.RowKit Go.Shelf Go.Sort
section
variable {w0 w : World} {A R : jAd} {r sd n : Nat} {P : Rp} {st : Hs} {c : Cv} {va : Option Addr} {vc : Nat} {en : En}
theorem kJo (H : jAc w0 w r sd P st R) (hg : jAo n st) (hn : n < 900) (hbud : I64 st.slab.bud) (hen : en.ok) (hc : c.ok) (he : T40 c.exp) (hno : N41 en.now) (hrd : ∀ W,Law w0 W R → Bs W va c.val.length vc (jA6 c.val)) (hcv : c.val.length ≤ 3000) (y : Ent) (hlv : jAp st c.key en = some y) (T : Hs) (hTU : jGt sd (jAy st c.key en) c.key = T) (hcas : ¬ (c.cas ≠ 0 ∧ c.cas ≠ y.1.cas)) (hop : c.op = 3 ∨ c.op = 5) : Calls Tryz.prog 11 #[.pointer (some ⟨r,0,none⟩),.agg (cmC c va vc),.agg (enC en)] w (jCo w0 r sd R (jBb sd T c.key c.val c.fl (atW c.exp en.now) en)):=by
 have hgl:=jCf hg c.key en
 have hgT:=jD3 hgl sd c.key
 rw [hTU] at hgT
 have hbT : I64 T.slab.bud:=by rw [← hTU];have h:=jFh sd st c.key en;unfold jCy at h;rw [h];exact hbud
 have H0:=H.three (c:=c) (va:=va) (vc:=vc) (en:=en)
 have HK:=jAa (fun W => jDn c.op W)
 have HT:=jAa hTU
 have HLV:=jAa hlv
 have hnn:=Nat.le_of_lt hn
 have hck:=hc.key
 clear H hTU hlv
 have hat:=jCm hc.exp hen.now
 have HA:=jAa (fun W => jHp (c:=c) (en:=en) he hno W)
 obtain ⟨p,hp⟩ : ∃ p,jBb sd T c.key c.val c.fl (atW c.exp en.now) en = p:=⟨_,rfl⟩
 have HPE:=jAa hp
 have HPV : Hid (p.1.val = []):=by show p.1.val = [];rw [← hp];exact jJb _ _ _ _ _ _ _
 have HP:=jAa (fun W (P' : Rp) (R' : jAd) (HW : jAc w0 W r sd P' T R') (hrd' : ∀ V,Law w0 V R' → Bs V va c.val.length vc (jA6 c.val)) => jJw (a:=va) (c:=vc) HW hgT hnn hbT hen c.key c.val c.fl (atW c.exp en.now) hc.key hc.val hat hrd' p hp)
 clear hp
 have HOP:=jAa hop
 rcases hop with hop | hop
 all_goals
  go_enter Tryz.func11,Tryz.ntmps11
  go_upto_region 1 with fail
  rw [jAi]
  generalize ((w.alloc (.cells (cmC c va vc) 33)).alloc (.cells (enC en) 35)).alloc (.cells (rsC jAg none 0) 40) = W at *
  have d0:=(jAf H0.b3).1
  have d1:=(jAf H0.b3).2.1
  rw [show jCc c.op = true by rw [hop];decide] at HK
  rw [hop] at d0 HK
  go_upto_region 8 with (first
   | (go_at_call 14;refine (HK.out _).mono ?_;rintro e w1 ⟨rfl,rfl⟩)
   | (refine ldE (w.heap.size + 1) en rfl _ rfl rfl H0.boxAt2 ?_)
   | (go_at_call 34;refine (jFp H0 hg hnn c.key y HLV.out).mono ?_;rintro e w2 ⟨x,rfl,rfl,P2,hx2,H2⟩;have H3:=H2.box (.cells (itC (jAe x.t.iv x.t.a x.t.c)) 75);clear H0 H2 d0 d1)
   | (refine stI w2.heap.size (jAe x.t.iv x.t.a x.t.c) rfl _ _ rfl rfl rfl (World.alloc_heap_new w2 _) ?_;rw [jAq];generalize w2.alloc (.cells (itC (jAe x.t.iv x.t.a x.t.c)) 75) = w3 at *;have d3:=(jAf H3.b4).2.1)
   | (go_at_call 35;refine (jFx H3 hgl hnn c.key hck _ HT.out).mono ?_;rintro e w5 ⟨⟨v5,rfl⟩,P5,hes,H5⟩;clear H3 d3))
  obtain ⟨gi,hgi⟩ : ∃ gi,w2.heap.size = gi:=⟨_,rfl⟩
  rw [hgi] at H5 ⊢
  have hx : x ∈ P5.es:=by rw [hes];exact hx2
  have hxT : x.ent ∈ T.ents:=by rw [← H5.ents];exact List.mem_map.2 ⟨x,hx,rfl⟩
  have hi : x.t.iv.ok:=(hgT.cls _ hxT).1
  have hv : x.t.iv.val.length ≤ 3000:=hgT.val hxT
  clear hgi hx2 hes hxT HK HT HLV hgl hck
  have d0:=(jAf H5.b4).1
  rw [hop] at d0
  have k5:=(jAf H5.b4).2.2.2.2.2.1
  have q4:=(jAk H5.boxAt).2.2.2.2.1
  change _ = some (Value.int .u64 x.t.iv.cas) at q4
  obtain hz | ⟨hz,hzc⟩ : c.cas = 0 ∨ (c.cas ≠ 0 ∧ x.t.iv.cas = c.cas):=by
   by_cases h0 : c.cas = 0
   ·exact .inl h0
   ·refine .inr ⟨h0,?_⟩
    have hz3 : ¬ (c.cas ≠ 0 ∧ c.cas ≠ x.t.iv.cas):=hcas
    by_cases h1 : c.cas = x.t.iv.cas
    ·exact h1.symm
    ·exact absurd ⟨h0,h1⟩ hz3
  all_goals
   first | rw [hz] at k5 | (have hzb : (c.cas != 0) = true:=(by simpa using hz);rw [hzc] at q4)
   go_upto_region 24 with fail
   clear k5 q4 d0
   have H6:=H5.drew
   have hS:=SD.of H6
   clear H5
   refine jE0 (S:=SD w.heap.size c va vc en) 14 (by kernel_rfl) (by simp) (by kernel_rfl) ?_
   simp only [List.take_succ_cons,List.take_zero,List.drop_succ_cons,List.drop_zero]
   generalize w5.drew = W6 at *
   refine tkA 0 75 (v:=.pointer (some ⟨r,0,none⟩)) rfl rfl (by kernel_rfl) (fun _ _ _ h => h) (Or.inl ⟨by rfl,fun W hW => by go_simp⟩) hS ?_
   simp only [Act.put,lyA,lyB,lyC]
   refine tkA 1 76 (v:=.agg (enC en)) rfl rfl (by kernel_rfl) (fun _ _ _ h => h) (yieldsIf_load_mid (by rfl) 35 _ rfl (w.heap.size + 1) 0 rfl (enC en).toList _ (fun W hW => jL0 hW.en) Tryz.underlying35 rfl (by rw [jHs en,Array.length_toList])) hS ?_
   simp only [Act.put,lyA,lyB,lyC]
   refine tkA 2 77 (v:=.pointer (some ⟨w.heap.size,1,none⟩)) rfl rfl (by kernel_rfl) (fun _ _ _ h => h) (Or.inl ⟨by rfl,fun W hW => by go_simp⟩) hS ?_
   simp only [Act.put,lyA,lyB,lyC]
   refine tkA 3 78 (v:=.string c.key) rfl rfl (by kernel_rfl) (fun _ _ _ h => h) (Or.inl ⟨by rfl,fun W hW => by have h1:=(jAf hW.cm).2.1;go_simp⟩) hS ?_
   simp only [Act.put,lyA,lyB,lyC]
   refine tkA 4 79 (v:=.pointer (some ⟨w.heap.size,2,none⟩)) rfl rfl (by kernel_rfl) (fun _ _ _ h => h) (Or.inl ⟨by rfl,fun W hW => by go_simp⟩) hS ?_
   simp only [Act.put,lyA,lyB,lyC]
   refine tkA 5 80 (v:=.slice va c.val.length vc) rfl rfl (by kernel_rfl) (fun _ _ _ h => h) (Or.inl ⟨by rfl,fun W hW => by have h1:=(jAf hW.cm).2.2.1;go_simp⟩) hS ?_
   simp only [Act.put,lyA,lyB,lyC]
   refine tkA 6 81 (v:=.pointer (some ⟨w.heap.size,3,none⟩)) rfl rfl (by kernel_rfl) (fun _ _ _ h => h) (Or.inl ⟨by rfl,fun W hW => by go_simp⟩) hS ?_
   simp only [Act.put,lyA,lyB,lyC]
   refine tkA 7 82 (v:=.int .u32 c.fl) rfl rfl (by kernel_rfl) (fun _ _ _ h => h) (Or.inl ⟨by rfl,fun W hW => by have h1:=(jAf hW.cm).2.2.2.1;go_simp⟩) hS ?_
   simp only [Act.put,lyA,lyB,lyC]
   refine tkA 8 83 (v:=.pointer (some ⟨w.heap.size,4,none⟩)) rfl rfl (by kernel_rfl) (fun _ _ _ h => h) (Or.inl ⟨by rfl,fun W hW => by go_simp⟩) hS ?_
   simp only [Act.put,lyA,lyB,lyC]
   refine tkA 9 84 (v:=.int .i64 c.exp) rfl rfl (by kernel_rfl) (fun _ _ _ h => h) (Or.inl ⟨by rfl,fun W hW => by have h1:=(jAf hW.cm).2.2.2.2.1;go_simp⟩) hS ?_
   simp only [Act.put,lyA,lyB,lyC]
   refine tkA 10 85 (v:=.pointer (some ⟨w.heap.size + 1,0,none⟩)) rfl rfl (by kernel_rfl) (fun _ _ _ h => h) (Or.inl ⟨by rfl,fun W hW => by go_simp⟩) hS ?_
   simp only [Act.put,lyA,lyB,lyC]
   refine tkA 11 86 (v:=.int .i64 en.now) rfl rfl (by kernel_rfl) (fun _ _ _ h => h) (Or.inl ⟨by rfl,fun W hW => by have h1:=(jBx hW.en).1;go_simp⟩) hS ?_
   simp only [Act.put,lyA,lyB,lyC]
   refine jC8 12 (by kernel_rfl) rfl rfl ?_
   refine jCe 87 rfl (by go_simp) (HA.out W6) ?_
   rintro e w7 ⟨rfl,rfl⟩
   refine ⟨_,rfl,?_⟩
   refine ⟨hS,?_⟩
   simp only [Act.put,lyA,lyB,lyC]
   refine jC8 13 (by kernel_rfl) rfl rfl ?_
   refine jCe 88 rfl (by go_simp) (HP.out _ _ _ H6 (fun V h => hrd V h.right.right.right.right)) ?_
   rintro e w8 ⟨rfl,P8,H8⟩
   refine ⟨_,rfl,?_⟩
   refine ⟨SD.of H8,?_⟩
   simp only [Act.put,lyA,lyB,lyC]
   refine wpAnyH_done (by kernel_rfl) ?_ _
   change wpList _ _ _ _ _ _
   have H9:=H8.less
   clear H8 H6 hS
   go_wp2_with (refine stR_ (w.heap.size + 1 + 1) p.1 none 0 rfl _ _ rfl rfl rfl H9.boxAt ?_;have H10:=H9.rsRow p.1 none 0)
   exact jAj rfl H10.boxAt rfl (by rw [HPE.out];exact jBg rfl HPV.out H10.less.less.less)
theorem kEh (H : jAc w0 w r sd P st R) (hg : jAo n st) (hn : n < 900) (hbud : I64 st.slab.bud) (hen : en.ok) (hc : c.ok) (he : T40 c.exp) (hno : N41 en.now) (hrd : ∀ W,Law w0 W R → Bs W va c.val.length vc (jA6 c.val)) (hcv : c.val.length ≤ 3000) (y : Ent) (hlv : jAp st c.key en = some y) (T : Hs) (hTU : jGt sd (jAy st c.key en) c.key = T) (hcas : ¬ (c.cas ≠ 0 ∧ c.cas ≠ y.1.cas)) (hop : c.op = 6 ∨ c.op = 7) : Calls Tryz.prog 11 #[.pointer (some ⟨r,0,none⟩),.agg (cmC c va vc),.agg (enC en)] w (jCo w0 r sd R (jLa sd T c en y.1)):=by
 have hgl:=jCf hg c.key en
 have hgT:=jD3 hgl sd c.key
 rw [hTU] at hgT
 have hbT : I64 T.slab.bud:=by rw [← hTU];have h:=jFh sd st c.key en;unfold jCy at h;rw [h];exact hbud
 have H0:=H.three (c:=c) (va:=va) (vc:=vc) (en:=en)
 have HK:=jAa (fun W => jDn c.op W)
 have HT:=jAa hTU
 have HLV:=jAa hlv
 have hnn:=Nat.le_of_lt hn
 have hck:=hc.key
 clear H hTU hlv
 have HOP:=jAa hop
 rcases hop with hop | hop
 all_goals
  go_enter Tryz.func11,Tryz.ntmps11
  go_upto_region 1 with fail
  rw [jAi]
  generalize ((w.alloc (.cells (cmC c va vc) 33)).alloc (.cells (enC en) 35)).alloc (.cells (rsC jAg none 0) 40) = W at *
  have d0:=(jAf H0.b3).1
  have d1:=(jAf H0.b3).2.1
  rw [show jCc c.op = true by rw [hop];decide] at HK
  rw [hop] at d0 HK
  go_upto_region 8 with (first
   | (go_at_call 14;refine (HK.out _).mono ?_;rintro e w1 ⟨rfl,rfl⟩)
   | (refine ldE (w.heap.size + 1) en rfl _ rfl rfl H0.boxAt2 ?_)
   | (go_at_call 34;refine (jFp H0 hg hnn c.key y HLV.out).mono ?_;rintro e w2 ⟨x,rfl,rfl,P2,hx2,H2⟩;have H3:=H2.box (.cells (itC (jAe x.t.iv x.t.a x.t.c)) 75);clear H0 H2 d0 d1)
   | (refine stI w2.heap.size (jAe x.t.iv x.t.a x.t.c) rfl _ _ rfl rfl rfl (World.alloc_heap_new w2 _) ?_;rw [jAq];generalize w2.alloc (.cells (itC (jAe x.t.iv x.t.a x.t.c)) 75) = w3 at *;have d3:=(jAf H3.b4).2.1)
   | (go_at_call 35;refine (jFx H3 hgl hnn c.key hck _ HT.out).mono ?_;rintro e w5 ⟨⟨v5,rfl⟩,P5,hes,H5⟩;clear H3 d3))
  obtain ⟨gi,hgi⟩ : ∃ gi,w2.heap.size = gi:=⟨_,rfl⟩
  rw [hgi] at H5 ⊢
  have hx : x ∈ P5.es:=by rw [hes];exact hx2
  have hxT : x.ent ∈ T.ents:=by rw [← H5.ents];exact List.mem_map.2 ⟨x,hx,rfl⟩
  have hi : x.t.iv.ok:=(hgT.cls _ hxT).1
  have hv : x.t.iv.val.length ≤ 3000:=hgT.val hxT
  clear hgi hx2 hes hxT HK HT HLV hgl hck
  have d0:=(jAf H5.b4).1
  rw [hop] at d0
  have k5:=(jAf H5.b4).2.2.2.2.2.1
  have q4:=(jAk H5.boxAt).2.2.2.2.1
  change _ = some (Value.int .u64 x.t.iv.cas) at q4
  obtain hz | ⟨hz,hzc⟩ : c.cas = 0 ∨ (c.cas ≠ 0 ∧ x.t.iv.cas = c.cas):=by
   by_cases h0 : c.cas = 0
   ·exact .inl h0
   ·refine .inr ⟨h0,?_⟩
    have hz3 : ¬ (c.cas ≠ 0 ∧ c.cas ≠ x.t.iv.cas):=hcas
    by_cases h1 : c.cas = x.t.iv.cas
    ·exact h1.symm
    ·exact absurd ⟨h0,h1⟩ hz3
  all_goals
   first | rw [hz] at k5 | (have hzb : (c.cas != 0) = true:=(by simpa using hz);rw [hzc] at q4)
   go_wp2_with (first
    | (refine ldC w.heap.size c va vc rfl _ rfl rfl H5.b4 ?_)
    | (refine ldE (w.heap.size + 1) en rfl _ rfl rfl H5.b3 ?_)
    | (refine ldI gi (jAe x.t.iv x.t.a x.t.c) rfl _ rfl rfl H5.boxAt ?_)
    | (go_at_call 41;refine (kCs (x:=x) (c:=c) (va:=va) (vc:=vc) (en:=en) H5 hgT hnn hbT hx hi hv hcv hen hc (fun V h => hrd V h.right.right.right.right)).mono ?_;rintro e w8 ⟨a8,c8,P8,rfl,H8⟩;have H9:=H8.swap.less.swap;clear H8 H5)
    | (refine stR_ (w.heap.size + 1 + 1) (jLa sd T c en x.t.iv).1 a8 c8 rfl _ _ rfl rfl rfl H9.boxAt ?_;have H10:=H9.rsRow (jLa sd T c en x.t.iv).1 a8 c8))
   exact jAj rfl H10.boxAt rfl ⟨a8,c8,P8,rfl,H10.less.swap.less.swap.less⟩
end
end
section
set_option linter.unusedVariables false
set_option linter.unusedSimpArgs false
open Go.RowKit Go.Shelf Go.Sort
section
variable {w0 w : World} {A R : jAd} {r sd n : Nat} {P : Rp} {st : Hs} {c : Cv} {va : Option Addr} {vc : Nat} {en : En}
theorem kDd (H : jAc w0 w r sd P st R) (hg : jAo n st) (hn : n < 900) (hbud : I64 st.slab.bud) (hen : en.ok) (hc : c.ok) (he : T40 c.exp) (hno : N41 en.now) (hrd : ∀ W,Law w0 W R → Bs W va c.val.length vc (jA6 c.val)) (hcv : c.val.length ≤ 3000) (y : Ent) (hlv : jAp st c.key en = some y) (T : Hs) (hTU : jGt sd (jAy st c.key en) c.key = T) (hcas : ¬ (c.cas ≠ 0 ∧ c.cas ≠ y.1.cas)) (hop : c.op = 9) : Calls Tryz.prog 11 #[.pointer (some ⟨r,0,none⟩),.agg (cmC c va vc),.agg (enC en)] w (jCo w0 r sd R (jAh 5,jBa T (jDy c en y.1))):=by
 have hgl:=jCf hg c.key en
 have hgT:=jD3 hgl sd c.key
 rw [hTU] at hgT
 have hbT : I64 T.slab.bud:=by rw [← hTU];have h:=jFh sd st c.key en;unfold jCy at h;rw [h];exact hbud
 have H0:=H.three (c:=c) (va:=va) (vc:=vc) (en:=en)
 have HK:=jAa (fun W => jDn c.op W)
 have HT:=jAa hTU
 have HLV:=jAa hlv
 have hnn:=Nat.le_of_lt hn
 have hck:=hc.key
 clear H hTU hlv
 go_enter Tryz.func11,Tryz.ntmps11
 go_upto_region 1 with fail
 rw [jAi]
 generalize ((w.alloc (.cells (cmC c va vc) 33)).alloc (.cells (enC en) 35)).alloc (.cells (rsC jAg none 0) 40) = W at *
 have d0:=(jAf H0.b3).1
 have d1:=(jAf H0.b3).2.1
 rw [show jCc c.op = true by rw [hop];decide] at HK
 rw [hop] at d0 HK
 go_upto_region 8 with (first
  | (go_at_call 14;refine (HK.out _).mono ?_;rintro e w1 ⟨rfl,rfl⟩)
  | (refine ldE (w.heap.size + 1) en rfl _ rfl rfl H0.boxAt2 ?_)
  | (go_at_call 34;refine (jFp H0 hg hnn c.key y HLV.out).mono ?_;rintro e w2 ⟨x,rfl,rfl,P2,hx2,H2⟩;have H3:=H2.box (.cells (itC (jAe x.t.iv x.t.a x.t.c)) 75);clear H0 H2 d0 d1)
  | (refine stI w2.heap.size (jAe x.t.iv x.t.a x.t.c) rfl _ _ rfl rfl rfl (World.alloc_heap_new w2 _) ?_;rw [jAq];generalize w2.alloc (.cells (itC (jAe x.t.iv x.t.a x.t.c)) 75) = w3 at *;have d3:=(jAf H3.b4).2.1)
  | (go_at_call 35;refine (jFx H3 hgl hnn c.key hck _ HT.out).mono ?_;rintro e w5 ⟨⟨v5,rfl⟩,P5,hes,H5⟩;clear H3 d3))
 obtain ⟨gi,hgi⟩ : ∃ gi,w2.heap.size = gi:=⟨_,rfl⟩
 rw [hgi] at H5 ⊢
 have hx : x ∈ P5.es:=by rw [hes];exact hx2
 have hxT : x.ent ∈ T.ents:=by rw [← H5.ents];exact List.mem_map.2 ⟨x,hx,rfl⟩
 have hi : x.t.iv.ok:=(hgT.cls _ hxT).1
 have hv : x.t.iv.val.length ≤ 3000:=hgT.val hxT
 clear hgi hx2 hes hxT HK HT HLV hgl hck
 have d0:=(jAf H5.b4).1
 rw [hop] at d0
 have k5:=(jAf H5.b4).2.2.2.2.2.1
 have q4:=(jAk H5.boxAt).2.2.2.2.1
 change _ = some (Value.int .u64 x.t.iv.cas) at q4
 obtain hz | ⟨hz,hzc⟩ : c.cas = 0 ∨ (c.cas ≠ 0 ∧ x.t.iv.cas = c.cas):=by
  by_cases h0 : c.cas = 0
  ·exact .inl h0
  ·refine .inr ⟨h0,?_⟩
   have hz3 : ¬ (c.cas ≠ 0 ∧ c.cas ≠ x.t.iv.cas):=hcas
   by_cases h1 : c.cas = x.t.iv.cas
   ·exact h1.symm
   ·exact absurd ⟨h0,h1⟩ hz3
 all_goals
  first | rw [hz] at k5 | (have hzb : (c.cas != 0) = true:=(by simpa using hz);rw [hzc] at q4)
  have HM:=jAa (kD1 (x:=x) (c:=c) (va:=va) (vc:=vc) (en:=en) H5 hgT hnn hx hi hen he hno hc.exp)
  obtain ⟨q,hq⟩ : ∃ q : Rv × Hs,(jAh 5,jBa T (jDy c en x.t.iv)) = q:=⟨_,rfl⟩
  have HQ:=jAa hq
  rw [hq] at HM
  clear hq
  go_wp2_with (first
   | (refine ldC w.heap.size c va vc rfl _ rfl rfl H5.b4 ?_)
   | (refine ldE (w.heap.size + 1) en rfl _ rfl rfl H5.b3 ?_)
   | (refine ldI gi (jAe x.t.iv x.t.a x.t.c) rfl _ rfl rfl H5.boxAt ?_)
   | (go_at_call 43;refine (HM.out).mono ?_;rintro e w8 ⟨a8,c8,P8,rfl,H8⟩;have H9:=H8.swap.less.swap;clear H8 H5)
   | (refine stR_ (w.heap.size + 1 + 1) (q).1 a8 c8 rfl _ _ rfl rfl rfl H9.boxAt ?_;have H10:=H9.rsRow (q).1 a8 c8))
  exact jAj rfl H10.boxAt rfl (by show jCo w0 r sd R (jAh 5,jBa T (jDy c en x.t.iv)) _ _;rw [HQ.out];exact ⟨a8,c8,P8,rfl,H10.less.swap.less.swap.less⟩)
theorem kEm (H : jAc w0 w r sd P st R) (hg : jAo n st) (hn : n < 900) (hbud : I64 st.slab.bud) (hen : en.ok) (hc : c.ok) (he : T40 c.exp) (hno : N41 en.now) (hrd : ∀ W,Law w0 W R → Bs W va c.val.length vc (jA6 c.val)) (hcv : c.val.length ≤ 3000) (y : Ent) (hlv : jAp st c.key en = some y) (T : Hs) (hTU : jGt sd (jAy st c.key en) c.key = T) (hcas : ¬ (c.cas ≠ 0 ∧ c.cas ≠ y.1.cas)) (hop : c.op = 10 ∨ c.op = 11) : Calls Tryz.prog 11 #[.pointer (some ⟨r,0,none⟩),.agg (cmC c va vc),.agg (enC en)] w (jCo w0 r sd R (jC9 sd T c en y.1)):=by
 have hgl:=jCf hg c.key en
 have hgT:=jD3 hgl sd c.key
 rw [hTU] at hgT
 have hbT : I64 T.slab.bud:=by rw [← hTU];have h:=jFh sd st c.key en;unfold jCy at h;rw [h];exact hbud
 have H0:=H.three (c:=c) (va:=va) (vc:=vc) (en:=en)
 have HK:=jAa (fun W => jDn c.op W)
 have HT:=jAa hTU
 have HLV:=jAa hlv
 have hnn:=Nat.le_of_lt hn
 have hck:=hc.key
 clear H hTU hlv
 have HOP:=jAa hop
 rcases hop with hop | hop
 all_goals
  go_enter Tryz.func11,Tryz.ntmps11
  go_upto_region 1 with fail
  rw [jAi]
  generalize ((w.alloc (.cells (cmC c va vc) 33)).alloc (.cells (enC en) 35)).alloc (.cells (rsC jAg none 0) 40) = W at *
  have d0:=(jAf H0.b3).1
  have d1:=(jAf H0.b3).2.1
  rw [show jCc c.op = true by rw [hop];decide] at HK
  rw [hop] at d0 HK
  go_upto_region 8 with (first
   | (go_at_call 14;refine (HK.out _).mono ?_;rintro e w1 ⟨rfl,rfl⟩)
   | (refine ldE (w.heap.size + 1) en rfl _ rfl rfl H0.boxAt2 ?_)
   | (go_at_call 34;refine (jFp H0 hg hnn c.key y HLV.out).mono ?_;rintro e w2 ⟨x,rfl,rfl,P2,hx2,H2⟩;have H3:=H2.box (.cells (itC (jAe x.t.iv x.t.a x.t.c)) 75);clear H0 H2 d0 d1)
   | (refine stI w2.heap.size (jAe x.t.iv x.t.a x.t.c) rfl _ _ rfl rfl rfl (World.alloc_heap_new w2 _) ?_;rw [jAq];generalize w2.alloc (.cells (itC (jAe x.t.iv x.t.a x.t.c)) 75) = w3 at *;have d3:=(jAf H3.b4).2.1)
   | (go_at_call 35;refine (jFx H3 hgl hnn c.key hck _ HT.out).mono ?_;rintro e w5 ⟨⟨v5,rfl⟩,P5,hes,H5⟩;clear H3 d3))
  obtain ⟨gi,hgi⟩ : ∃ gi,w2.heap.size = gi:=⟨_,rfl⟩
  rw [hgi] at H5 ⊢
  have hx : x ∈ P5.es:=by rw [hes];exact hx2
  have hxT : x.ent ∈ T.ents:=by rw [← H5.ents];exact List.mem_map.2 ⟨x,hx,rfl⟩
  have hi : x.t.iv.ok:=(hgT.cls _ hxT).1
  have hv : x.t.iv.val.length ≤ 3000:=hgT.val hxT
  clear hgi hx2 hes hxT HK HT HLV hgl hck
  have d0:=(jAf H5.b4).1
  rw [hop] at d0
  have k5:=(jAf H5.b4).2.2.2.2.2.1
  have q4:=(jAk H5.boxAt).2.2.2.2.1
  change _ = some (Value.int .u64 x.t.iv.cas) at q4
  obtain hz | ⟨hz,hzc⟩ : c.cas = 0 ∨ (c.cas ≠ 0 ∧ x.t.iv.cas = c.cas):=by
   by_cases h0 : c.cas = 0
   ·exact .inl h0
   ·refine .inr ⟨h0,?_⟩
    have hz3 : ¬ (c.cas ≠ 0 ∧ c.cas ≠ x.t.iv.cas):=hcas
    by_cases h1 : c.cas = x.t.iv.cas
    ·exact h1.symm
    ·exact absurd ⟨h0,h1⟩ hz3
  all_goals
   first | rw [hz] at k5 | (have hzb : (c.cas != 0) = true:=(by simpa using hz);rw [hzc] at q4)
   go_wp2_with (first
    | (refine ldC w.heap.size c va vc rfl _ rfl rfl H5.b4 ?_)
    | (refine ldE (w.heap.size + 1) en rfl _ rfl rfl H5.b3 ?_)
    | (refine ldI gi (jAe x.t.iv x.t.a x.t.c) rfl _ rfl rfl H5.boxAt ?_)
    | (go_at_call 44;refine (jXz (x:=x) (c:=c) (va:=va) (vc:=vc) (en:=en) H5 hgT hnn hbT hx hi hv hen hc HOP.out).mono ?_;rintro e w8 ⟨a8,c8,P8,rfl,H8⟩;have H9:=H8.swap.less.swap;clear H8 H5)
    | (refine stR_ (w.heap.size + 1 + 1) (jC9 sd T c en x.t.iv).1 a8 c8 rfl _ _ rfl rfl rfl H9.boxAt ?_;have H10:=H9.rsRow (jC9 sd T c en x.t.iv).1 a8 c8))
   exact jAj rfl H10.boxAt rfl ⟨a8,c8,P8,rfl,H10.less.swap.less.swap.less⟩
theorem kIy (H : jAc w0 w r sd P st R) (hg : jAo n st) (hn : n < 900) (hbud : I64 st.slab.bud) (hen : en.ok) (hc : c.ok) (he : T40 c.exp) (hno : N41 en.now) (hrd : ∀ W,Law w0 W R → Bs W va c.val.length vc (jA6 c.val)) (hcv : c.val.length ≤ 3000) (y : Ent) (hlv : jAp st c.key en = some y) (T : Hs) (hTU : jGt sd (jAy st c.key en) c.key = T) (hcas : ¬ (c.cas ≠ 0 ∧ c.cas ≠ y.1.cas)) (hop : c.op = 8) : Calls Tryz.prog 11 #[.pointer (some ⟨r,0,none⟩),.agg (cmC c va vc),.agg (enC en)] w (jCo w0 r sd R (jAh 5,jBv T c.key)):=by
 have hgl:=jCf hg c.key en
 have hgT:=jD3 hgl sd c.key
 rw [hTU] at hgT
 have hbT : I64 T.slab.bud:=by rw [← hTU];have h:=jFh sd st c.key en;unfold jCy at h;rw [h];exact hbud
 have H0:=H.three (c:=c) (va:=va) (vc:=vc) (en:=en)
 have HK:=jAa (fun W => jDn c.op W)
 have HT:=jAa hTU
 have HLV:=jAa hlv
 have hnn:=Nat.le_of_lt hn
 have hck:=hc.key
 clear H hTU hlv
 go_enter Tryz.func11,Tryz.ntmps11
 go_upto_region 1 with fail
 rw [jAi]
 generalize ((w.alloc (.cells (cmC c va vc) 33)).alloc (.cells (enC en) 35)).alloc (.cells (rsC jAg none 0) 40) = W at *
 have d0:=(jAf H0.b3).1
 have d1:=(jAf H0.b3).2.1
 rw [show jCc c.op = true by rw [hop];decide] at HK
 rw [hop] at d0 HK
 go_upto_region 8 with (first
  | (go_at_call 14;refine (HK.out _).mono ?_;rintro e w1 ⟨rfl,rfl⟩)
  | (refine ldE (w.heap.size + 1) en rfl _ rfl rfl H0.boxAt2 ?_)
  | (go_at_call 34;refine (jFp H0 hg hnn c.key y HLV.out).mono ?_;rintro e w2 ⟨x,rfl,rfl,P2,hx2,H2⟩;have H3:=H2.box (.cells (itC (jAe x.t.iv x.t.a x.t.c)) 75);clear H0 H2 d0 d1)
  | (refine stI w2.heap.size (jAe x.t.iv x.t.a x.t.c) rfl _ _ rfl rfl rfl (World.alloc_heap_new w2 _) ?_;rw [jAq];generalize w2.alloc (.cells (itC (jAe x.t.iv x.t.a x.t.c)) 75) = w3 at *;have d3:=(jAf H3.b4).2.1)
  | (go_at_call 35;refine (jFx H3 hgl hnn c.key hck _ HT.out).mono ?_;rintro e w5 ⟨⟨v5,rfl⟩,P5,hes,H5⟩;clear H3 d3))
 obtain ⟨gi,hgi⟩ : ∃ gi,w2.heap.size = gi:=⟨_,rfl⟩
 rw [hgi] at H5 ⊢
 have hx : x ∈ P5.es:=by rw [hes];exact hx2
 have hxT : x.ent ∈ T.ents:=by rw [← H5.ents];exact List.mem_map.2 ⟨x,hx,rfl⟩
 have hi : x.t.iv.ok:=(hgT.cls _ hxT).1
 have hv : x.t.iv.val.length ≤ 3000:=hgT.val hxT
 clear hgi hx2 hes hxT HK HT HLV hgl hck
 have d0:=(jAf H5.b4).1
 rw [hop] at d0
 have k5:=(jAf H5.b4).2.2.2.2.2.1
 have q4:=(jAk H5.boxAt).2.2.2.2.1
 change _ = some (Value.int .u64 x.t.iv.cas) at q4
 obtain hz | ⟨hz,hzc⟩ : c.cas = 0 ∨ (c.cas ≠ 0 ∧ x.t.iv.cas = c.cas):=by
  by_cases h0 : c.cas = 0
  ·exact .inl h0
  ·refine .inr ⟨h0,?_⟩
   have hz3 : ¬ (c.cas ≠ 0 ∧ c.cas ≠ x.t.iv.cas):=hcas
   by_cases h1 : c.cas = x.t.iv.cas
   ·exact h1.symm
   ·exact absurd ⟨h0,h1⟩ hz3
 all_goals
  first | rw [hz] at k5 | (have hzb : (c.cas != 0) = true:=(by simpa using hz);rw [hzc] at q4)
  have d1:=(jAf H5.b4).2.1
  go_wp2_with (first
   | (go_at_call 42;refine (jQz H5 hgT hnn c.key _ rfl _ rfl).mono ?_;rintro e w6 ⟨rfl,P6,H6⟩;clear H5 d1)
   | (go_at_call 33;refine (jCq 5 _).mono ?_;rintro e w9 ⟨rfl,hgr⟩;have H10:=(H6.step hgr).less;clear hgr)
   | (refine stR_ (w.heap.size + 1 + 1) (jAh 5) none 0 rfl _ _ rfl rfl rfl H10.boxAt ?_;have H11:=H10.rsRow (jAh 5) none 0))
  exact jAj rfl H11.boxAt rfl (jBg rfl rfl H11.less.less.less)
end
end
section
set_option linter.unusedVariables false
set_option linter.unusedSimpArgs false
open Go.RowKit Go.Shelf Go.Sort
section
variable {w0 w : World} {A R : jAd} {r sd n : Nat} {P : Rp} {st : Hs} {c : Cv} {va : Option Addr} {vc : Nat} {en : En}
theorem kOm (H : jAc w0 w r sd P st R) (hg : jAo n st) (hn : n < 900) (hbud : I64 st.slab.bud) (hen : en.ok) (hc : c.ok) (he : T40 c.exp) (hno : N41 en.now) (hrd : ∀ W,Law w0 W R → Bs W va c.val.length vc (jA6 c.val)) (hcv : c.val.length ≤ 3000) : Calls Tryz.prog 11 #[.pointer (some ⟨r,0,none⟩),.agg (cmC c va vc),.agg (enC en)] w (jCo w0 r sd R (doH sd st c en)):=by
 cases hk : jCc c.op with
 | false => exact kNr H hg hn hbud hen hc he hno hk
 | true =>
  cases hlv : jAp st c.key en with
  | none => exact kLz H hg hn hbud hen hc he hno hrd hk hlv
  | some y =>
   have hop:=of_decide_eq_true hk
   have hr : doH sd st c en = jC3 sd (jCy sd st c.key en) c en y.1:=by
    unfold doH
    rw [if_neg (by omega),if_pos hk,hlv]
   rw [hr]
   have hT : jGt sd (jAy st c.key en) c.key = jCy sd st c.key en:=rfl
   by_cases h2 : c.op = 0 ∨ c.op = 1 ∨ c.op = 2
   ·exact kHh H hg hn hbud hen hc he hno hrd hcv y hlv _ hT h2
   ·unfold jC3
    rw [if_neg (by omega),if_neg (by omega)]
    by_cases h12 : c.op = 12
    ·rw [if_pos h12]
     exact kIl H hg hn hbud hen hc he hno hrd hcv y hlv _ hT h12
    ·rw [if_neg h12]
     by_cases h4 : c.op = 4
     ·rw [if_pos h4]
      exact kI2 H hg hn hbud hen hc he hno hrd hcv y hlv _ hT h4
     ·rw [if_neg h4]
      by_cases hcas : c.cas ≠ 0 ∧ c.cas ≠ y.1.cas
      ·rw [if_pos hcas]
       exact jZq H hg hn hbud hen hc he hno hrd hcv y hlv _ hT hcas (by omega)
      ·rw [if_neg hcas]
       by_cases h3 : c.op = 3 ∨ c.op = 5
       ·rw [if_pos h3]
        exact kJo H hg hn hbud hen hc he hno hrd hcv y hlv _ hT hcas h3
       ·rw [if_neg h3]
        by_cases h6 : c.op = 6 ∨ c.op = 7
        ·rw [if_pos h6]
         exact kEh H hg hn hbud hen hc he hno hrd hcv y hlv _ hT hcas h6
        ·rw [if_neg h6]
         by_cases h8 : c.op = 8
         ·rw [if_pos h8]
          exact kIy H hg hn hbud hen hc he hno hrd hcv y hlv _ hT hcas h8
         ·rw [if_neg h8]
          by_cases h9 : c.op = 9
          ·rw [if_pos h9]
           exact kDd H hg hn hbud hen hc he hno hrd hcv y hlv _ hT hcas h9
          ·rw [if_neg h9]
           exact kEm H hg hn hbud hen hc he hno hrd hcv y hlv _ hT hcas (by omega)
end
end
end Go.Proofs.YtkfeafmpaodagaaGreatDoor
