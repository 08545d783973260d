/- Items: the shard and the document's own one have the same items, and as much in use. Conditions: the contracts of package shard; at most 900 stores. Stores of package exec, and of the document's own. Conditions: none. Same of package butteryref12. Conditions: none. -/
import Derived.Test.YtkfeafmpaodagaaGreatDoorG42Joined
import Derived.Test.YtkfeafmpaodagaaGreatDoorG34Joined
import Derived.Test.YtkfeafmpaodagaaGreatDoorG06Joined
import Derived.Deep.RegionHeld3
import Derived.Test.YtkfeafmpaodagaaGreatDoorG39Joined
namespace Go.Proofs.YtkfeafmpaodagaaGreatDoor
set_option maxHeartbeats 16000000
section
set_option linter.unusedVariables false
set_option linter.unusedSimpArgs false
open Go.RowKit Go.Shelf Go.Sort
attribute [local go_sem] Oper.semAt_some
variable {Sh : World → Nat → (Nat → Prop) → Nat → Nat → Hs → Prop}
def itG (w : World) (r j : Nat) : jAd:=(jAn (w.heap.size + 1 + 1) (.cells #[.int .i64 (j : Int)] 3)).and ((jAn (w.heap.size + 1) (.cells #[.bool false] 4)).and ((jAn w.heap.size (.cells #[.pointer (some ⟨r,0,none⟩)] 28)).and jAd.emp))
def ItI (w : World) (r sz : Nat) (own2 : Nat → Prop) (pre : List jFf) (W : World) (fp : Nat → Prop) : Prop:=fp = (itG w r pre.length).own ∧ Law w W (itG w r pre.length) ∧ (∀ k,own2 k → ¬ fp k) ∧ sz ≤ W.heap.size
theorem ItI.lasts {w : World} {r sz B : Nat} {own2 : Nat → Prop} (hB : w.heap.size ≤ B) : jD5 B (ItI w r sz own2):=by
 rintro pre V V' fp ⟨rfl,H,h2,h3⟩ hg hs
 exact ⟨rfl,⟨Gr.below H.below hg (fun k hk => Nat.le_trans hB hk),(itG w r pre.length).on V V' H.q hs,fun k hk => ⟨(H.lt k hk).1,Nat.lt_of_lt_of_le (H.lt k hk).2 hg.size⟩⟩,h2,Nat.le_trans h3 hg.size⟩
theorem ItI.foot {w : World} {r sz : Nat} {own2 : Nat → Prop} : ∀ pre V fp,ItI w r sz own2 pre V fp → ∀ k,fp k → k < V.heap.size ∧ ¬ own2 k:=by
 rintro pre V fp ⟨rfl,H,h2,h3⟩ k hk
 exact ⟨(H.lt k hk).2,fun h => h2 k h hk⟩
abbrev jPh (g r sp N : Nat) (pa : Option Addr) (cap : Nat) (W : World) : Prop:=W.cell? ⟨g + 1 + 1,0,none⟩ = some (.int .i64 (N : Int)) ∧ W.cell? ⟨g,0,none⟩ = some (.pointer (some ⟨r,0,none⟩)) ∧ W.cell? ⟨r,0,none⟩ = some (.slice pa N cap) ∧ W.cell? ⟨r,1,none⟩ = some (.pointer (some ⟨sp,0,none⟩))
theorem jPh.on {g r sp N cap : Nat} {pa : Option Addr} {w w' : World} (h : jPh g r sp N pa cap w) (hg : w.grownBy w' none) : jPh g r sp N pa cap w':=⟨jDw h.1 hg,jDw h.2.1 hg,jDw h.2.2.1 hg,jDw h.2.2.2 hg⟩
theorem jPh.set {g r sp N cap : Nat} {pa : Option Addr} {w : World} (h : jPh g r sp N pa cap w) (hr : r ≠ g + 1) (v : Value) : jPh g r sp N pa cap (w.setCell ⟨g + 1,0,none⟩ v):=⟨(farC (by omega) w 0 0 v).trans h.1,(farC (by omega) w 0 0 v).trans h.2.1,(farC (fun e => hr e.symm) w 0 0 v).trans h.2.2.1,(farC (fun e => hr e.symm) w 0 1 v).trans h.2.2.2⟩
set_option maxRecDepth 100000 in
theorem kAg (L : jA7 Sh) {w0 w : World} {b r sd sd2 n : Nat} {own : Nat → Prop} {P : Rp} {st : Hs} {R : jAd} (H : jAc w0 w r sd P st ((shQ L b own sd2 n st).and R)) (hn : n ≤ 900) :
  Calls Tryz.prog 12 #[.pointer (some ⟨b,0,none⟩),.pointer (some ⟨r,0,none⟩)] w fun e w' => e = .returned (.bool true) ∧ w.grownBy w' none:=by
 refine (callsIn_wide (n:=9)).1 ?_
 have HSH : Law w0 w ((shQ L b own sd2 n st).and ((jCi (jIv w0.heap.size r sd P st)).and R)):=H.law.rot
 have hlen : P.es.length = st.ents.length:=H.len
 have hG : jAo n st:=L.good H.law.q.2.1.1
 have H1:=((HSH.alloc (.cells #[.pointer (some ⟨r,0,none⟩)] 28)).alloc (.cells #[.bool false] 4)).alloc (.cells #[.int .i64 0] 3)
 have G1 : Law w (((w.alloc (.cells #[.pointer (some ⟨r,0,none⟩)] 28)).alloc (.cells #[.bool false] 4)).alloc (.cells #[.int .i64 0] 3)) (itG w r 0):=by
  have h0:=(((Law.start w).box (.cells #[.pointer (some ⟨r,0,none⟩)] 28)).box (.cells #[.bool false] 4)).box (.cells #[.int .i64 0] 3)
  rw [World.size_alloc,World.size_alloc] at h0
  exact h0
 refine callsIn_of_wp_marks Tryz.func12 rfl trivial ?_ rfl
 simp only [Tryz.ntmps12,List.size_toArray,List.length_cons,List.length_nil,Nat.reduceAdd,Nat.reduceSub,Array.replicate_succ,Array.replicate_zero,List.push_toArray,List.append_toArray,List.nil_append,List.cons_append]
 gi_wp2_with (refine ⟨trivial,?_⟩;gi_at_call 45;refine (callsIn_wide.2 (L.all H1.sh (Nat.le_trans hn (by decide)))).mono ?_;rintro e w1 ⟨g,lb,own2,rfl,hL1,hg1,ho1,ho2,heg,hseq⟩)
 have hsz1:=hg1.size
 simp only [World.size_alloc] at hsz1
 have hlt2 : ∀ k,own2 k → k < w1.heap.size:=fun k hk => (ho2 k hk).elim (fun h => Nat.lt_of_lt_of_le (H1.lt k (.inl h)).2 hg1.size) fun h => h.2
 have hw1 : w.heap.size ≤ w1.heap.size:=by omega
 have I0 : ItI w r w1.heap.size own2 [] w1 (itG w r 0).own:=by
  refine ⟨rfl,G1.step hg1,fun k hk hf => ?_,Nat.le_refl _⟩
  have h1:=(G1.lt k hf)
  rcases ho2 k hk with h | h
  ·have:=(HSH.lt k (.inl h)).2
   omega
  ·simp only [World.size_alloc] at h
   have h5 : k < w.heap.size + 1 + 1 + 1:=by have:=h1.2;simp only [World.size_alloc] at this;exact this
   omega
 have HS:=jAa H
 have HGD:=jAa hG
 clear H1 hg1 ho2 G1 hL1 H ho1 HSH hG
 refine jT3 rfl (by decide) (gf:=g) (lb:=lb) rfl trivial heg (hseq (9 - 1) (by decide)) (Below.refl _ _) hlt2 (fun _ => rfl)
  (ItI w r w1.heap.size own2) (fun c pre W fp => False) _ (ItI.lasts hw1) (fun c pre V V' fp h hg hs => h.elim) ItI.foot I0 (fun x => .cells (itC x.it) 75) (fun x k => { tmps:=#[.pointer (some ⟨b,0,none⟩),.pointer (some ⟨r,0,none⟩),undef,.pointer (some ⟨w.heap.size,0,none⟩),.pointer (some ⟨w.heap.size + 1,0,none⟩),.pointer (some ⟨w.heap.size + 1 + 1,0,none⟩),.pointer (some ⟨k,0,none⟩),undef,.pointer (some ⟨b,0,none⟩),.func (.func g) #[] lb,.agg (itC x.it),undef,undef,undef,undef,undef,undef,undef,undef,undef,undef,undef,undef,undef,undef,undef,undef,undef,undef,undef,undef,undef,undef,undef,undef,undef,undef,undef,undef,undef,undef,undef,undef,undef,undef,undef,undef,undef,undef],defers:=[] }) ?assign ?body ?done ?stop
 case assign =>
  intro l x W K hK
  unfold jSe
  gi_wp2_with (refine jO5 rfl 75 _ _ rfl W.heap.size (itC x.it) rfl rfl _ (itC jBw) (World.alloc_heap_new W _) (jCd _) rfl (jHu _) ?_)
  rw [jAq]
  exact hK
 case body =>
  rintro l pre x W fp k0 hk0 hk1 hk2 hk3 ⟨rfl,HJ,hj2,hj3⟩ hsp hgq hgo
  obtain ⟨N,hN⟩ : ∃ N,P.es.length = N:=⟨_,rfl⟩
  obtain ⟨e,he,hxe⟩ : ∃ e,P.es[pre.length]? = some e ∧ x.iv = e.t.iv:=by
   obtain ⟨rs,hrs⟩:=hsp
   have hm : st.ents.map Prod.fst = P.es.map fun e => e.t.iv:=by rw [← HS.out.ents,List.map_map];rfl
   rw [hm] at hrs
   have h1 : ((pre ++ [x]).map jFf.iv ++ rs)[pre.length]? = (P.es.map fun e => e.t.iv)[pre.length]?:=by rw [hrs]
   have h2 : ((pre ++ [x]).map jFf.iv ++ rs)[pre.length]? = some x.iv:=by
    rw [List.map_append,List.append_assoc,List.getElem?_append_right (by rw [List.length_map];exact Nat.le_refl _),List.length_map,Nat.sub_self]
    rfl
   rw [h2,List.getElem?_map] at h1
   cases he : P.es[pre.length]? with
   | none => rw [he] at h1;cases h1
   | some e => rw [he] at h1;exact ⟨e,rfl,Option.some.inj h1⟩
  have hjN : pre.length < N:=by rw [← hN];exact (List.getElem?_eq_some_iff.1 he).1
  have hji : (pre.length : Int) < (N : Int):=by omega
  have HW : jAc w0 W r sd P st _:=HS.out.step (jB9 HJ.below)
  obtain ⟨pa,cap,hv,hc1,hc2⟩:=HW.slice hN
  unfold maxLen at hc2
  obtain ⟨gl,rfl,hcs⟩:=HW.reAt hN hv he
  have kN:=jGg (show W.heap[w.heap.size + 1 + 1]? = some (.cells #[.int .i64 (pre.length : Int)] 3) from HJ.q.1)
  have kR:=jGg (show W.heap[w.heap.size]? = some (.cells #[.pointer (some ⟨r,0,none⟩)] 28) from HJ.q.2.1.2.1.1)
  have kL : W.cell? ⟨r,0,none⟩ = some (.slice (some ⟨gl,0,none⟩) N cap):=by rw [← hv];exact HW.cells.1
  have kX : W.rangeAt k0 0 (itC x.it).toList:=fun j v hv' => by
   unfold World.cell?
   rw [hk0]
   show (itC x.it)[0 + j]? = some v
   rw [Nat.zero_add,← Array.getElem?_toList]
   exact hv'
  have kE : W.rangeAt gl (pre.length * 12) (itC e.t.it).toList:=fun j v hv' => hcs j v (kK8 hv')
  have bX : Bs W x.a x.iv.val.length x.c (jA6 x.iv.val):=jDi.bs hgq
  have bE:=HW.tale he
  have rng : ∀ {V V' : World} {g o : Nat} {cs : List Value},V.rangeAt g o cs → V.grownBy V' none → V'.rangeAt g o cs:=fun h hg j v hv' => jDw (h j v hv') hg
  have hN0 : ∀ V,W.grownBy V none → V.cell? ⟨w.heap.size + 1 + 1,0,none⟩ = some (.int .i64 (pre.length : Int)):=fun V hV => jDw kN hV
  have hR0 : ∀ V,W.grownBy V none → V.cell? ⟨w.heap.size,0,none⟩ = some (.pointer (some ⟨r,0,none⟩)):=fun V hV => jDw kR hV
  have hL0 : ∀ V,W.grownBy V none → V.cell? ⟨r,0,none⟩ = some (.slice (some ⟨gl,0,none⟩) N cap):=fun V hV => jDw kL hV
  have HX1:=jAa (fun V (hV : W.grownBy V none) => rng kX hV)
  have HE1:=jAa (fun V (hV : W.grownBy V none) => rng kE hV)
  have HSM : Hid (∀ V,W.grownBy V none → CallsIn Fence.wide (9 - 1 - 1 - 1) Tryz.prog 46 #[.agg (itC x.it),.agg (itC e.t.it)] V fun e' w' => e' = .returned (.bool true) ∧ W.grownBy w' none):=fun V hV => callsIn_wide.2 ((kDb x.iv e.t.iv x.a e.t.a x.c e.t.c V (bX.on (jDv hV)) (bE.on (jDv hV))).mono fun e' w' ⟨qq,h1,h2,h3⟩ => ⟨by rw [h1,h2 hxe],jAt hV h3⟩)
  have HJH:=jAa HJ
  clear hv hN he kL kX kE bX bE hcs HW rng hsp HJ kN kR
  gi_wp2
  refine jOo (C:=fun V => W.grownBy V none) 6 _ l rfl rfl (by kernel_rfl) (by kernel_rfl) ⟨rfl,rfl,rfl,Nat.le_refl _,fun _ _ _ => rfl⟩ ?_
  simp only [List.take_succ_cons,List.take_zero]
  refine jE1 11 (.int .i64 (pre.length : Int)) rfl rfl (fun _ => trivial) (fun V hV => by have h1:=hN0 V hV;go_simp) ?_
  simp only [Act.put,lyA,lyB,lyC]
  refine jE1 12 (.pointer (some ⟨r,0,none⟩)) rfl rfl (fun _ => trivial) (fun V hV => by have h1:=hR0 V hV;go_simp) ?_
  simp only [Act.put,lyA,lyB,lyC]
  refine jE1 13 (.pointer (some ⟨r,0,none⟩)) rfl rfl (fun _ => trivial) (fun V hV => by go_simp) ?_
  simp only [Act.put,lyA,lyB,lyC]
  refine jE1 14 (.pointer (some ⟨r,0,none⟩)) rfl rfl (fun _ => trivial) (fun V hV => by go_simp) ?_
  simp only [Act.put,lyA,lyB,lyC]
  refine jE1 15 (.slice (some ⟨gl,0,none⟩) N cap) rfl rfl (fun _ => trivial) (fun V hV => by have h1:=hL0 V hV;go_simp) ?_
  simp only [Act.put,lyA,lyB,lyC]
  refine jE1 16 (.int .i64 (N : Int)) rfl rfl (fun _ => trivial) (fun V hV => by go_simp) ?_
  simp only [Act.put,lyA,lyB,lyC]
  refine wpQuietIn_nil ?_
  intro W1 hW1
  go_simp
  gi_wp2
  refine jOo (C:=fun V => W.grownBy V none) 10 _ l rfl rfl (by kernel_rfl) (by kernel_rfl) (jAt hW1 ⟨rfl,rfl,rfl,Nat.le_refl _,fun _ _ _ => rfl⟩) ?_
  simp only [List.take_succ_cons,List.take_zero]
  refine jE1 18 (.agg (itC x.it)) rfl rfl (fun _ => trivial) (fun V hV => jOp 75 _ rfl k0 (0) rfl (itC x.it).toList _ (HX1.out V hV) Tryz.underlying75 rfl (by rw [jCd x.it,Array.length_toList])) ?_
  simp only [Act.put,lyA,lyB,lyC]
  refine jE1 19 (.pointer (some ⟨r,0,none⟩)) rfl rfl (fun _ => trivial) (fun V hV => by have h1:=hR0 V hV;go_simp) ?_
  simp only [Act.put,lyA,lyB,lyC]
  refine jE1 20 (.pointer (some ⟨r,0,none⟩)) rfl rfl (fun _ => trivial) (fun V hV => by go_simp) ?_
  simp only [Act.put,lyA,lyB,lyC]
  refine jE1 21 (.pointer (some ⟨r,0,none⟩)) rfl rfl (fun _ => trivial) (fun V hV => by go_simp) ?_
  simp only [Act.put,lyA,lyB,lyC]
  refine jE1 22 (.slice (some ⟨gl,0,none⟩) N cap) rfl rfl (fun _ => trivial) (fun V hV => by have h1:=hL0 V hV;go_simp) ?_
  simp only [Act.put,lyA,lyB,lyC]
  refine jE1 23 (.int .i64 (pre.length : Int)) rfl rfl (fun _ => trivial) (fun V hV => by have h1:=hN0 V hV;go_simp) ?_
  simp only [Act.put,lyA,lyB,lyC]
  refine jE1 24 (.pointer (some ⟨gl,pre.length * 12,none⟩)) rfl rfl (fun _ => trivial) (fun V hV => by go_simp) ?_
  simp only [Act.put,lyA,lyB,lyC]
  refine jE1 25 (.pointer (some ⟨gl,pre.length * 12,none⟩)) rfl rfl (fun _ => trivial) (fun V hV => by go_simp) ?_
  simp only [Act.put,lyA,lyB,lyC]
  refine jE1 26 (.agg (itC e.t.it)) rfl rfl (fun _ => trivial) (fun V hV => jOp 75 _ rfl gl (pre.length * 12) rfl (itC e.t.it).toList _ (HE1.out V hV) Tryz.underlying75 rfl (by rw [jCd e.t.it,Array.length_toList])) ?_
  simp only [Act.put,lyA,lyB,lyC]
  refine q_call 27 (.bool true) rfl rfl (fun _ => trivial) (fun _ => by decide) (fun V hV => by go_simp) (fun V hV => HSM.out V hV) ?_
  simp only [Act.put,lyA,lyB,lyC]
  refine wpQuietIn_nil ?_
  intro W2 hW2
  go_simp
  have HJ2:=HJH.out.step hW2
  have n2:=hN0 W2 hW2
  have f2 : W2.frozen? ⟨w.heap.size + 1 + 1,0,none⟩ = false:=frozen_of_row _ _ _ _ _ (show W2.heap[w.heap.size + 1 + 1]? = some (.cells #[.int .i64 (pre.length : Int)] 3 (0,0)) from HJ2.q.1)
  have HJ3:=HJ2.set (.int .i64 ((pre.length : Int) + 1))
  have HJ4 : Law w (W2.setCell ⟨w.heap.size + 1 + 1,0,none⟩ (.int .i64 ((pre.length : Int) + 1))) (itG w r (pre ++ [x]).length):=by
   have e9 : ((pre ++ [x]).length : Int) = (pre.length : Int) + 1:=by simp
   unfold itG
   rw [e9]
   exact HJ3
  have HG : Gr (itG w r pre.length).own W (W2.setCell ⟨w.heap.size + 1 + 1,0,none⟩ (.int .i64 ((pre.length : Int) + 1))):=⟨hW2.os,hW2.tape,hW2.output,by rw [World.size_setCell];exact hW2.size,fun k hk hnk => (Below.heap_setCell W2 ⟨w.heap.size + 1 + 1,0,none⟩ _ k (fun e => hnk (show (itG w r pre.length).own k from Or.inl e))).trans (hW2.block k hk (by simp))⟩
  have HJ5:=jAa HJ4
  have HG5:=jAa HG
  clear HJ2 HJ3 HJ4 HG HSM HX1 HE1 hN0 hR0 hL0 HJH hseq
  gi_wp2
  exact ⟨_,HG5.out,fun k hk => .inl (.inl hk),rfl,HJ5.out,hj2,Nat.le_trans hj3 HG5.out.size⟩
 case stop =>
  rintro D c pre W fp hD hpre h
  exact h.elim
 case done =>
  rintro D ys W fp hD hys ⟨rfl,HJ,hj2,hj3⟩ hK hnD
  obtain ⟨N,hN⟩ : ∃ N,P.es.length = N:=⟨_,rfl⟩
  have hyN : ys.length = N:=by
   have h1:=congrArg List.length hys
   rw [List.length_map,List.length_map] at h1
   rw [h1,← hlen,hN]
  have HW:=HS.out.step (jB9 HJ.below)
  obtain ⟨pa,cap,hv,hc1,hc2⟩:=HW.slice hN
  unfold maxLen at hc2
  have kN:=jGg (show W.heap[w.heap.size + 1 + 1]? = some (.cells #[.int .i64 (ys.length : Int)] 3) from HJ.q.1)
  rw [hyN] at kN
  have kR:=jGg (show W.heap[w.heap.size]? = some (.cells #[.pointer (some ⟨r,0,none⟩)] 28) from HJ.q.2.1.2.1.1)
  have kL : W.cell? ⟨r,0,none⟩ = some (.slice pa N cap):=by rw [← hv];exact HW.cells.1
  have kS:=HW.cells.2.1
  have hrw : r < w.heap.size:=(Array.getElem?_eq_some_iff.1 HS.out.head).1
  have hr1 : r ≠ w.heap.size + 1:=by omega
  have s0 : jPh w.heap.size r P.sp N pa cap W:=⟨kN,kR,kL,kS⟩
  have s1:=s0.on ⟨rfl,rfl,rfl,Nat.le_refl _,fun _ _ _ => rfl⟩ (w':=W.drew)
  have HSm : Hid (Small st.slab 10000):=by
   have h:=HGD.out.slabSmall hn
   exact ⟨by have:=h.inn;omega,by have:=h.gone;omega,fun m hm => by have:=h.made m hm;omega⟩
  have HSS:=jAa HW.drew
  have HJ1:=jAa HJ.drew
  have hnn : n ≤ 4398046511104:=Nat.le_trans hn (by decide)
  obtain ⟨ud,hud⟩ : ∃ u,jBn st.slab = u:=⟨_,rfl⟩
  have HUD:=jAa hud
  clear kN kR kL kS HW hyN hN hv hys hseq hud s0
  gi_wp2
  refine wpIn_wide.2 ?_
  go_region_held3 (jPh w.heap.size r P.sp N pa cap) (first | exact s1 | exact s5 | exact s7) (first
   | (go_at_call 47;refine (L.used HSS.out.law.q.2.1.1 hnn).mono ?_;rintro e w5 ⟨rfl,-,hg5⟩;rw [HUD.out];have s5:=s1.on hg5;have HS5:=HSS.out.step hg5;have HJ5:=HJ1.out.step hg5;have z5:=jGg (show w5.heap[w.heap.size + 1]? = some (.cells #[.bool false] 4) from HJ5.q.2.1.1);have f5 : w5.frozen? ⟨w.heap.size + 1,0,none⟩ = false:=frozen_of_row _ _ _ _ _ (show w5.heap[w.heap.size + 1]? = some (.cells #[.bool false] 4 (0,0)) from HJ5.q.2.1.1);have s7:=s5.set hr1 (.bool true))
   | (go_at_call 48;refine (jO1 HS5.slab HSm.out).mono ?_;rintro e w6 ⟨rfl,rfl⟩;rw [HUD.out]))
  have K5 : w5.heap[D]? = some (.deferred (some [])):=(hg5.block D (Array.getElem?_eq_some_iff.1 hK).1 (by simp)).trans hK
  obtain ⟨l1,l2,l3⟩:=jS0 (w:=w) (t:=4) (b0:=false) (b:=true) (show Boxed w5 (w.heap.size + 1) 4 (.bool false) from HJ5.q.2.1.1) (Nat.le_trans hw1 hD) (by omega) (Nat.le_succ _) HJ5.below K5
  clear HJ5 HS5 s5 s7 HSm
  gi_wp2
  refine ⟨by simp,.inl ⟨_,_,rfl,run_takeDeferred l1,?_⟩⟩
  refine ⟨.bool true,?_,rfl,jB9 l3⟩
  rw [jTn rfl]
  go_simp
end
section
set_option linter.unusedVariables false
open Go.RowKit Go.Shelf Go.Sort
theorem kDn (op : Int) (w : World) : Calls Tryz.prog 15 #[.int .i64 op] w fun e w' => e = .returned (.bool (jNk op)) ∧ w' = w:=by
 by_cases h : op = 3 ∨ op = 4 ∨ op = 5 ∨ op = 6 ∨ op = 7 ∨ op = 10 ∨ op = 11 ∨ op = 12
 ·rcases h with rfl | rfl | rfl | rfl | rfl | rfl | rfl | rfl
  all_goals
   go_enter Tryz.func15,Tryz.ntmps15
   go_wp2
   go_ret
   exact ⟨rfl,rfl⟩
 ·have HK : Hid (jNk op = false):=decide_eq_false (by omega)
  have h3 : (op == 3) = false:=beq_eq_false_iff_ne.2 (by omega)
  have h4 : (op == 4) = false:=beq_eq_false_iff_ne.2 (by omega)
  have h5 : (op == 5) = false:=beq_eq_false_iff_ne.2 (by omega)
  have h6 : (op == 6) = false:=beq_eq_false_iff_ne.2 (by omega)
  have h7 : (op == 7) = false:=beq_eq_false_iff_ne.2 (by omega)
  have h10 : (op == 10) = false:=beq_eq_false_iff_ne.2 (by omega)
  have h11 : (op == 11) = false:=beq_eq_false_iff_ne.2 (by omega)
  have h12 : (op == 12) = false:=beq_eq_false_iff_ne.2 (by omega)
  clear h
  go_enter Tryz.func15,Tryz.ntmps15
  go_wp2
  go_ret
  exact ⟨by rw [HK.out];first | rfl | (simp;done) | (simp;omega),rfl⟩
theorem kAe (op : Int) (w : World) : Calls Tryz.prog 16 #[.int .i64 op] w fun e w' => e = .returned (.bool (jNk op)) ∧ w' = w:=by
 by_cases h : op = 3 ∨ op = 4 ∨ op = 5 ∨ op = 6 ∨ op = 7 ∨ op = 10 ∨ op = 11 ∨ op = 12
 ·rcases h with rfl | rfl | rfl | rfl | rfl | rfl | rfl | rfl
  all_goals
   go_enter Tryz.func16,Tryz.ntmps16
   go_wp2
   go_ret
   exact ⟨rfl,rfl⟩
 ·have HK : Hid (jNk op = false):=decide_eq_false (by omega)
  have h10 : (op == 10) = false:=beq_eq_false_iff_ne.2 (by omega)
  have h11 : (op == 11) = false:=beq_eq_false_iff_ne.2 (by omega)
  have h12 : (op == 12) = false:=beq_eq_false_iff_ne.2 (by omega)
  by_cases h3 : op < 3
  ·clear h
   go_enter Tryz.func16,Tryz.ntmps16
   go_wp2
   go_ret
   exact ⟨by rw [HK.out];first | rfl | (simp;done) | (simp;omega),rfl⟩
  ·have h7 : (7 : Int) < op:=by omega
   have h3' : (3 : Int) ≤ op:=by omega
   clear h h3
   go_enter Tryz.func16,Tryz.ntmps16
   go_wp2
   go_ret
   exact ⟨by rw [HK.out];first | rfl | (simp;done) | (simp;omega),rfl⟩
end
section
set_option linter.unusedVariables false
open Go.RowKit Go.Shelf Go.Sort
set_option maxRecDepth 100000 in
theorem kB9 {w : World} {r : Rv} {a a' : Option Addr} {k k' : Nat} (hb : Bs w a r.val.length k (jA6 r.val)) (hb' : Bs w a' r.val.length k' (jA6 r.val)) :
  Calls Tryz.prog 9 #[.agg (rsC r a k),.agg (rsC r a' k')] w fun e w' => e = .returned (.bool true) ∧ w.grownBy w' none:=by
 have H0:=((Law.start w).box (.cells (rsC r a k) 40)).box (.cells (rsC r a' k') 40)
 rw [World.size_alloc] at H0
 obtain ⟨x0,x1,x2,x3,x4,x5,x6,x7,x8⟩:=jIy H0.right.q.1
 obtain ⟨y0,y1,y2,y3,y4,y5,y6,y7,y8⟩:=jIy H0.q.1
 have h1:=jLx (hb.on H0.below)
 have h2:=jLx (hb'.on H0.below)
 generalize jP0 (jA6 r.val) = s at h1 h2
 have hg:=jB9 H0.below
 clear H0 hb hb'
 obtain ⟨rs,rv,rf,rc,rt,rn,rst,rw_,rl⟩:=r
 dsimp only at x0 x1 x2 x3 x4 x5 x6 x7 x8 y0 y1 y2 y3 y4 y5 y6 y7 y8 h1 h2
 generalize rv.length = n at *
 go_enter Tryz.func9,Tryz.ntmps9
 go_wp2
 go_ret
 exact ⟨by simp,hg⟩
end
end Go.Proofs.YtkfeafmpaodagaaGreatDoor
