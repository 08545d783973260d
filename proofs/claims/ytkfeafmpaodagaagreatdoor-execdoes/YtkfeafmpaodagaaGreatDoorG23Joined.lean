/- Remove, drop and living of package shard. Conditions: the contracts of the packages beneath it; at most 900 stores, keys of at most 300 bytes. What a new entry is to the table and to the entries; parts that become one. Conditions: none. -/
import Derived.Test.YtkfeafmpaodagaaGreatDoorG22Joined
import Derived.Test.YtkfeafmpaodagaaGreatDoorG21Joined
namespace Go.Proofs.YtkfeafmpaodagaaGreatDoor
set_option maxHeartbeats 16000000
section
open Go.RowKit Go.Shelf
variable {Sl : World → Nat → (Nat → Prop) → Sb → Prop} {Ls : World → Nat → (Nat → Prop) → Sr → Prop} {Jd : World → Nat → List Nat → Nat → Js → Prop} {Tb : World → Nat → (Nat → Prop) → Ts → Prop}
def jH9 (L : jEk Sl Ls Jd Tb) (F : Nat → Prop) (w0 w : World) (b sd n : Nat) (R : jAd) (st : Hs) (E : List Eb) : Prop:=∃ x,jAb F w0 w ((shP L b sd st x).and R) ∧ Fit n st x ∧ x.E = E
theorem kB8 {E : List Eb} (k : ByteArray) (h : (E.map Eb.blk).Nodup) : ((jFs k E).map Eb.blk).Nodup:=(List.filter_sublist.map _).nodup h
section
variable {L : jEk Sl Ls Jd Tb} {F : Nat → Prop} {w0 w : World} {b sd n : Nat} {st : Hs} {x : Sx} {R : jAd}
set_option maxRecDepth 100000 in
theorem jVh (H : jAb F w0 w ((shP L b sd st x).and R)) (f : Fit n st x) (hn : n ≤ 4398046511104) (s : ByteArray) (hs : s.size ≤ 140737488351232) :
  Calls Tryz.prog 104 #[.pointer (some ⟨b,0,none⟩),.string s] w fun e w' => e = .returned (.bool (jCs st s)) ∧ jH9 L F w0 w' b sd n R (jBv st s) (jFs s x.E):=by
 have h5:=f.small5 hn
 obtain ⟨g1,g2,g3⟩:=f.got s
 obtain ⟨c0,-⟩:=H.headC
 have hsm : s.size ≤ maxLen:=Nat.le_trans hs (by decide)
 cases hf : jBq s x.E with
 | none =>
  rw [hf] at g1 g2 g3
  have K:=jAa (show jJm (jEh s x.ts.l) = .pointer none ∧ jE3 x.ts s = false from ⟨g1,g2⟩)
  have HR : Hid (jBv st s = st):=by show _ = _;unfold jBv;rw [f.none hf]
  have HH:=jAa g3
  have HD:=jAa (kJ2 hf)
  have HF:=jAa f
  clear g1 g2 g3 f hf
  go_enter Tryz.func104,Tryz.ntmps104
  go_wp2_with (go_at_call 86;refine (L.tb.get H.tabl h5 s hs).mono ?_;rintro e w1 ⟨he,own1,hT,hg,hgr⟩;rw [K.out.1,K.out.2] at he;subst he;have H1:=H.toTab hT hg hgr)
  go_ret
  rw [HH.out,HR.out]
  exact ⟨rfl,_,H1,⟨jDa HF.out.small,HF.out.tab,HF.out.ents,HF.out.blks,HF.out.good⟩,HD.out.symm⟩
 | some y =>
  rw [hf] at g1 g2 g3
  have K:=jAa (show jJm (jEh s x.ts.l) = .pointer (some ⟨y.blk,0,none⟩) ∧ jE3 x.ts s = true from ⟨g1,g2⟩)
  have HR : Hid (jBv st s = jOz st s y.ent):=by show _ = _;unfold jBv;rw [f.some hf]
  have HH:=jAa g3
  have hy:=(jFl hf).1
  have hck:=f.ckOk hn hy
  have hsS:=f.smallS hn
  have hlR:=Nat.le_of_lt (f.lenR hn)
  have HF:=jAa f
  have HY:=jAa hf
  have h6 : jCj (jEc x.ts) 5000:=jDa h5
  clear g1 g2 g3 f hf
  go_enter Tryz.func104,Tryz.ntmps104
  go_upto_region 5 with (first
   | (go_at_call 86;refine (L.tb.get H.tabl h5 s hs).mono ?_;rintro e w1 ⟨he,own1,hT,hg,hgr⟩;rw [K.out.1,K.out.2] at he;subst he;have H1:=H.toTab hT hg hgr;clear hT hg hgr H c0;obtain ⟨c0,-⟩:=H1.headC)
   | (go_at_call 140;refine (L.tb.delete H1.tabl h6 s hs).mono ?_;rintro e w2 ⟨rfl,own2,hT,hg,hgr⟩;have H2:=(H1.toTab hT hg hgr).drew;clear hT hg hgr H1 c0))
  obtain ⟨-,c1,-⟩:=H2.headC
  obtain ⟨-,k1,k2,-⟩:=jGj (H2.entAt hy)
  go_region_held (fun w' => w'.cell? ⟨b,1,none⟩ = some (.pointer (some ⟨x.sb,0,none⟩)) ∧ w'.cell? ⟨y.blk,10,none⟩ = some (.int .i64 y.ck.1) ∧ w'.cell? ⟨y.blk,11,none⟩ = some (.int .i64 y.ck.2)) (first | exact ⟨c1,k1,k2⟩ | exact ⟨c3,k3,k4⟩) ((go_at_call 141;refine (L.sl.free H2.slab hsS y.ck hck).mono ?_;rintro e w3 ⟨rfl,own3,hS,hg,hgr⟩;have H3:=H2.toSlab hS hg hgr;obtain ⟨-,c3,c32,-⟩:=H3.headC;obtain ⟨-,k3,k4,-⟩:=jGj (H3.entAt hy)))
  all_goals
   go_wp2_with (go_at_call 142;refine (L.ls.remove H3.list hlR s hsm).mono ?_;rintro e w4 ⟨rfl,own4,hL,hg,hgr⟩;have H4:=H3.toList hL hg hgr)
   go_ret
   rw [HH.out,HR.out]
   exact ⟨rfl,_,H4.fewerE (jFs s x.E) (fun z hz => (jYf.1 hz).1) (jEp s st.ents),⟨kEg (jDa HF.out.small) s,by show jG0 s x.ts.l = _;rw [HF.out.tab,kNq],by show jEp s st.ents = _;rw [HF.out.ents,kJw],kB8 s HF.out.blks,(jLf HF.out.good (HF.out.some HY.out)).1⟩,rfl⟩
theorem jAb.appD {W w8 : World} {v' : Value} {s : ByteArray} {tmp : Obj} (H : jAb F w0 W ((shP L b sd st x).and R)) (hown : w8.ownsRow 0 9 1 v' (st.drops.length + 1) (jB6 st.drops ++ [.string s])) (hgrow : (W.alloc tmp).grownBy w8 x.vd.ownBlock) (hat : v'.ownBlock = x.vd.ownBlock ∨ v'.ownBlock = some (W.alloc tmp).heap.size) :
  w8.cell? ⟨b,4,none⟩ = some x.vd ∧ w8.frozen? ⟨b,4,none⟩ = false ∧ jAb F w0 (w8.setCell ⟨b,4,none⟩ v') ((shP L b sd (jWh st s) { x with vd:=v' }).and R):=by
 have hsa : (W.alloc tmp).heap.size = W.heap.size + 1:=World.size_alloc _ _
 have hs1:=hgrow.size
 have hown2 : w8.ownsRow 0 9 1 v' (st.drops ++ [s]).length (jB6 (st.drops ++ [s])):=by
  rw [List.length_append,jL2]
  exact hown
 have H1:=H.turnIn (A:=jIm x.vd st.drops) (A':=jIm v' (st.drops ++ [s])) 5 rfl hown2 (fun k hk => (jCw hown2 hk).2.1) ⟨hgrow.1,hgrow.2,hgrow.3,by omega,fun k hk hr => (hgrow.block k (by omega) (fun e => hr e.symm)).trans (Below.heap_alloc _ _ _ hk)⟩ fun k hk => (by
  rcases hat with h | h
  ·exact .inl (h.symm.trans hk)
  ·have hk' : v'.ownBlock = some k:=hk
   rw [h] at hk'
   cases hk'
   exact .inr (by omega))
 have hh : w8.heap[b]? = some (.cells #[.pointer (some ⟨x.tb,0,none⟩),.pointer (some ⟨x.sb,0,none⟩),.pointer (some ⟨x.ob,0,none⟩),.pointer (some ⟨x.jb,0,none⟩),x.vd] 62 (0,0)):=H1.at (A:=jJi b x) 0 rfl
 refine ⟨by simp [World.cell?,hh],frozen_of_row _ _ _ _ _ hh,?_⟩
 exact H1.turnIn (A:=jJi b x) (A':=jJi b { x with vd:=v' }) 0 rfl (heap_setCell_same w8 b 4 _ _ v' hh) (fun k hk => by rw [World.size_setCell];exact H1.atLt (A:=jJi b x) 0 rfl k hk) ⟨rfl,rfl,rfl,by rw [World.size_setCell];exact Nat.le_refl _,fun _ _ hn => heap_setCell_other _ _ _ _ hn⟩ fun _ hk => .inl hk
set_option maxRecDepth 100000 in
theorem jTw (H : jAb F w0 w ((shP L b sd st x).and R)) (f : Fit n st x) (hn : n ≤ 4398046511104) (s : ByteArray) (hs : s.size ≤ 140737488351232) {y : Eb} (hf : jBq s x.E = some y) :
  Calls Tryz.prog 88 #[.pointer (some ⟨b,0,none⟩),.string s] w fun e w' => (∃ v,e = .returned v) ∧ jH9 L F w0 w' b sd n R (jBy st s) (jFs s x.E):=by
 unfold jBy
 obtain ⟨i0,hi,hz0,hz1,hz2⟩:=info_parts jJ4
 have hfe:=f.some hf
 have gd : Hid (jAo n (jWh (jBv st s) s)):=(jGn f.good hfe).1
 have hdl : (jBv st s).drops.length ≤ 4398046511104:=by
  have : (jBv st s).drops = st.drops:=by unfold jBv;rw [hfe];rfl
  rw [this]
  have:=f.good.len
  omega
 go_enter Tryz.func88,Tryz.ntmps88
 go_upto_region 1 with (go_at_call 104;refine (jVh H f hn s hs).mono ?_;rintro e w1 ⟨rfl,x1,H1,f1,hE⟩)
 obtain ⟨-,-,-,-,c4⟩:=H1.headC
 have hrow:=H1.dropsR
 clear H hfe hf f
 go_wp2_with (at_builtin;refine wpList_append_own_at _ rfl _ _ 46 rfl 0 9 i0 (.string ⟨#[]⟩) 1 16 Tryz.underlying46 hi hz0 hz1 hz2 rfl (by decide) _ _ _ rfl (hrow.alloc _) ⟨_,0,none⟩ 1 1 [.string s] rfl rfl (cell_one_new _ _ _) (by simp [Value.oneCell']) (by unfold maxLen;omega) (by omega) (Nat.zero_le _) ?_;intro v' w8 hown' hgrow _ hat;obtain ⟨g',cap',rfl⟩:=ownsRow_succ hown';obtain ⟨d1,d2,H8⟩:=H1.appD hown' hgrow hat)
 go_end0
 exact ⟨⟨_,rfl⟩,_,H8,⟨f1.small,f1.tab,f1.ents,f1.blks,gd.out⟩,hE⟩
end
def jE6 (s : ByteArray) (en : En) (E : List Eb) : Option Eb:=match jBq s E with | none => none | some y => if jCn y.iv en then some y else none
def jEm (s : ByteArray) (en : En) (E : List Eb) : List Eb:=match jBq s E with | none => E | some y => if jCn y.iv en then E else jFs s E
theorem jSs {w : World} {y : Eb} (h : w.heap[y.blk]? = some (.cells y.cells 130 (0,0))) :
  (∀ n os,(Sort.grow (w.drewN n) os).cell? ⟨y.blk,0,none⟩ = some (.string y.iv.key)) ∧ (∀ n os,(Sort.grow (w.drewN n) os).cell? ⟨y.blk,1,none⟩ = some (.slice y.a y.iv.val.length y.c)) ∧ (∀ n os,(Sort.grow (w.drewN n) os).cell? ⟨y.blk,2,none⟩ = some (.int .u32 y.iv.fl)) ∧ (∀ n os,(Sort.grow (w.drewN n) os).cell? ⟨y.blk,3,none⟩ = some (.int .i64 y.iv.exp)) ∧
  (∀ n os,(Sort.grow (w.drewN n) os).cell? ⟨y.blk,4,none⟩ = some (.int .u64 y.iv.cas)) ∧ (∀ n os,(Sort.grow (w.drewN n) os).cell? ⟨y.blk,5,none⟩ = some (.int .i64 y.iv.sec)) ∧ (∀ n os,(Sort.grow (w.drewN n) os).cell? ⟨y.blk,6,none⟩ = some (.int .u64 y.iv.seq)) ∧ (∀ n os,(Sort.grow (w.drewN n) os).cell? ⟨y.blk,7,none⟩ = some (.bool y.iv.st)) ∧
  (∀ n os,(Sort.grow (w.drewN n) os).cell? ⟨y.blk,8,none⟩ = some (.bool y.iv.won)) ∧ (∀ n os,(Sort.grow (w.drewN n) os).cell? ⟨y.blk,9,none⟩ = some (.bool y.iv.seen)):=by
 have h':=fun n os => jMn h n os
 have at_ : ∀ (j : Nat) (v : Value),y.cells[j]? = some v → ∀ n os,(Sort.grow (w.drewN n) os).cell? ⟨y.blk,j,none⟩ = some v:=fun j v hv n os => by
  unfold World.cell?
  rw [h' n os]
  exact hv
 exact ⟨at_ 0 _ rfl,at_ 1 _ rfl,at_ 2 _ rfl,at_ 3 _ rfl,at_ 4 _ rfl,at_ 5 _ rfl,at_ 6 _ rfl,at_ 7 _ rfl,at_ 8 _ rfl,at_ 9 _ rfl⟩
section
variable {L : jEk Sl Ls Jd Tb} {F : Nat → Prop} {w0 w : World} {b sd n : Nat} {st : Hs} {x : Sx} {R : jAd}
theorem jAb.unbox {A B : jAd} (H : jAb F w0 w (A.and (B.and R))) : jAb F w0 w (A.and R):=H.rot.right
set_option maxRecDepth 100000 in
theorem jFq (H : jAb F w0 w ((shP L b sd st x).and R)) (f : Fit n st x) (hn : n ≤ 4398046511104) (s : ByteArray) (hs : s.size ≤ 140737488351232) (en : En) (hen : en.ok) :
  Calls Tryz.prog 53 #[.pointer (some ⟨b,0,none⟩),.string s,.agg (enC en)] w fun e w' => e = .returned (ptrB (jE6 s en x.E)) ∧ jH9 L F w0 w' b sd n R (jAy st s en) (jEm s en x.E):=by
 have mixed : Tryz.prog.follows .mixedOrders = true:=by kernel_rfl
 have h5:=f.small5 hn
 obtain ⟨g1,g2,-⟩:=f.got s
 have H0:=(H.box (.cells (enC en) 35)).rot
 obtain ⟨c0,-⟩:=H0.headC
 cases hf : jBq s x.E with
 | none =>
  rw [hf] at g1 g2
  have K:=jAa (show jJm (jEh s x.ts.l) = .pointer none ∧ jE3 x.ts s = false from ⟨g1,g2⟩)
  have hR : jAy st s en = st:=by unfold jAy;rw [f.none hf]
  have hL : jE6 s en x.E = none:=by unfold jE6;rw [hf]
  have hK : jEm s en x.E = x.E:=by unfold jEm;rw [hf]
  rw [hR,hL,hK]
  clear g1 g2 H hR hL hK
  go_enter Tryz.func53,Tryz.ntmps53
  go_wp2_with (go_at_call 86;refine (L.tb.get H0.tabl h5 s hs).mono ?_;rintro e w1 ⟨he,own1,hT,hg,hgr⟩;rw [K.out.1,K.out.2] at he;subst he;have H1:=(H0.toTab hT hg hgr).unbox)
  go_ret
  exact ⟨rfl,_,H1,⟨jDa f.small,f.tab,f.ents,f.blks,f.good⟩,rfl⟩
 | some y =>
  rw [hf] at g1 g2
  have K:=jAa (show jJm (jEh s x.ts.l) = .pointer (some ⟨y.blk,0,none⟩) ∧ jE3 x.ts s = true from ⟨g1,g2⟩)
  have hy:=(jFl hf).1
  have hok:=(f.ivOk hy).it y.a y.c
  have hfe:=f.some hf
  have HV:=jAa (fun W => L.it.live y.it en hok hen W)
  cases hlv : jCn y.iv en with
  | true =>
   have hR : jAy st s en = st:=by unfold jAy;rw [hfe];exact if_pos hlv
   have hL : jE6 s en x.E = some y:=by unfold jE6;rw [hf];exact if_pos hlv
   have hK : jEm s en x.E = x.E:=by unfold jEm;rw [hf];exact if_pos hlv
   rw [hR,hL,hK]
   rw [show jDd y.it.exp y.it.sec y.it.seq en = true from hlv] at HV
   clear g1 g2 H hR hL hK hlv
   go_enter Tryz.func53,Tryz.ntmps53
   go_upto_region 4 with (go_at_call 86;refine (L.tb.get H0.tabl h5 s hs).mono ?_;rintro e w1 ⟨he,own1,hT,hg,hgr⟩;rw [K.out.1,K.out.2] at he;subst he;have H1:=H0.toTab hT hg hgr)
   obtain ⟨d0,d1,d2,d3,d4,d5,d6,d7,d8,d9⟩:=jSs (H1.entAt hy)
   obtain ⟨k0,k1,k2,k3⟩:=jVx (show w1.heap[w.heap.size]? = some (.cells (enC en) 35 (0,0)) from H1.rot.q.1)
   go_quiet_grown ((go_at_call 87;exact Calls.grown_of (HV.out _)))
   have H2:=H1.unbox.step (Gd.grown ⟨nq,osq,rfl⟩)
   go_wp2
   go_ret
   exact ⟨rfl,_,H2,⟨jDa f.small,f.tab,f.ents,f.blks,f.good⟩,rfl⟩
  | false =>
   have hR : jAy st s en = jBy st s:=by unfold jAy;rw [hfe];exact if_neg (by rw [show jCn y.ent.1 en = false from hlv];decide)
   have hL : jE6 s en x.E = none:=by unfold jE6;rw [hf];exact if_neg (by rw [hlv];decide)
   have hK : jEm s en x.E = jFs s x.E:=by unfold jEm;rw [hf];exact if_neg (by rw [hlv];decide)
   rw [hR,hL,hK]
   rw [show jDd y.it.exp y.it.sec y.it.seq en = false from hlv] at HV
   clear g1 g2 H hR hL hK hlv
   go_enter Tryz.func53,Tryz.ntmps53
   go_upto_region 4 with (go_at_call 86;refine (L.tb.get H0.tabl h5 s hs).mono ?_;rintro e w1 ⟨he,own1,hT,hg,hgr⟩;rw [K.out.1,K.out.2] at he;subst he;have H1:=H0.toTab hT hg hgr)
   obtain ⟨d0,d1,d2,d3,d4,d5,d6,d7,d8,d9⟩:=jSs (H1.entAt hy)
   obtain ⟨k0,k1,k2,k3⟩:=jVx (show w1.heap[w.heap.size]? = some (.cells (enC en) 35 (0,0)) from H1.rot.q.1)
   go_quiet_grown ((go_at_call 87;exact Calls.grown_of (HV.out _)))
   have H2:=H1.unbox.step (Gd.grown ⟨nq,osq,rfl⟩)
   go_wp2_with (go_at_call 88;refine (jTw H2 ⟨jDa f.small,f.tab,f.ents,f.blks,f.good⟩ hn s hs hf).mono ?_;rintro e w3 ⟨⟨v,rfl⟩,H3⟩)
   go_ret
   exact ⟨rfl,H3⟩
end
end
section
open Go.RowKit Go.Shelf
variable {Sl : World → Nat → (Nat → Prop) → Sb → Prop} {Ls : World → Nat → (Nat → Prop) → Sr → Prop} {Jd : World → Nat → List Nat → Nat → Js → Prop} {Tb : World → Nat → (Nat → Prop) → Ts → Prop}
theorem jAb.mergeIn {F : Nat → Prop} {w0 w : World} {l : List jAd} {A A' B R : jAd} (H : jAb F w0 w ((jCi l).and (B.and R))) (i : Nat) (hi : l[i]? = some A) (hq : A.q w → B.q w → A'.q w) (ho : ∀ k,A'.own k → A.own k ∨ B.own k) : jAb F w0 w ((jCi (l.set i A')).and R):=by
 have hil : i < l.length:=(List.getElem?_eq_some_iff.1 hi).1
 have at_ : ∀ j C,(l.set i A')[j]? = some C → (j = i ∧ C = A') ∨ (j ≠ i ∧ l[j]? = some C):=fun j C hj => by
  by_cases e : j = i
  ·subst e
   rw [List.getElem?_set_self hil] at hj
   cases hj
   exact .inl ⟨rfl,rfl⟩
  ·rw [List.getElem?_set_ne (fun e' => e e'.symm)] at hj
   exact .inr ⟨e,hj⟩
 obtain ⟨⟨h1,h2⟩,⟨hB,hR,hBR⟩,hx⟩:=H.q
 have noB : ∀ (j : Nat) (C : jAd),l[j]? = some C → ∀ k,C.own k → ¬ B.own k:=fun j C hj k hc hb => hx k ⟨j,C,hj,hc⟩ (.inl hb)
 refine H.weak (B:=(jCi (l.set i A')).and R) (fun _ => ⟨⟨fun j C hj => ?_,fun j m C D hjm hj hm k hC hD => ?_⟩,hR,?_⟩) ?_
 ·rcases at_ j C hj with ⟨_,rfl⟩ | ⟨_,hj⟩
  ·exact hq (h1 i A hi) hB
  ·exact h1 j C hj
 ·rcases at_ j C hj with ⟨ej,eC⟩ | ⟨hne,hj⟩
  ·rcases at_ m D hm with ⟨em,_⟩ | ⟨hne,hm⟩
   ·exact hjm (ej.trans em.symm)
   ·rw [eC] at hC
    rcases ho k hC with h | h
    ·exact h2 i m A D (fun e => hne e.symm) hi hm k h hD
    ·exact noB m D hm k hD h
  ·rcases at_ m D hm with ⟨em,eD⟩ | ⟨_,hm⟩
   ·rw [eD] at hD
    rcases ho k hD with h | h
    ·exact h2 j i C A hne hj hi k hC h
    ·exact noB j C hj k hC h
   ·exact h2 j m C D hjm hj hm k hC hD
 ·rintro k ⟨j,C,hj,hk⟩ hr
  rcases at_ j C hj with ⟨_,rfl⟩ | ⟨_,hj⟩
  ·rcases ho k hk with h | h
   ·exact hx k ⟨i,A,hi,h⟩ (.inr hr)
   ·exact hBR k h hr
  ·exact hx k ⟨j,C,hj,hk⟩ (.inr hr)
 ·rintro k (⟨j,C,hj,hk⟩ | hk)
  ·rcases at_ j C hj with ⟨_,rfl⟩ | ⟨_,hj⟩
   ·rcases ho k hk with h | h
    ·exact .inl ⟨i,A,hi,h⟩
    ·exact .inr (.inl h)
   ·exact .inl ⟨j,C,hj,hk⟩
  ·exact .inr (.inr hk)
def jMc (y : Eb) (E : List Eb) : List Eb:=(E.filter fun x => ltK x.iv.key y.iv.key) ++ y :: E.filter fun x => ltK y.iv.key x.iv.key
theorem jRd (y : Eb) (E : List Eb) : (jMc y E).map Eb.ent = jCp y.ent (E.map Eb.ent):=by
 unfold jMc jCp
 rw [List.map_append,List.map_cons,List.filter_map,List.filter_map]
 rfl
theorem jZi {x y : Eb} {E : List Eb} (h : x ∈ jMc y E) : x = y ∨ (x ∈ E ∧ x.iv.key ≠ y.iv.key):=by
 unfold jMc at h
 rw [List.mem_append,List.mem_cons,List.mem_filter,List.mem_filter] at h
 rcases h with ⟨h1,h2⟩ | h | ⟨h1,h2⟩
 ·exact .inr ⟨h1,jEz h2⟩
 ·exact .inl h
 ·exact .inr ⟨h1,fun e => jEz h2 e.symm⟩
theorem jJy {E : List Eb} (h : jA9 (E.map Eb.ent)) : jCl (E.map Eb.kv):=by
 unfold jA9 at h
 unfold jCl
 rw [List.pairwise_map] at h ⊢
 exact h
theorem kBd (y : Eb) {E : List Eb} (h : jA9 (E.map Eb.ent)) : (jMc y E).map Eb.kv = jEs y.iv.key y.blk (E.map Eb.kv):=by
 have h1 : jCl (E.map Eb.kv):=jJy h
 refine jOb (jJy (by rw [jRd];exact jF2 h)) (jH3 h1) fun p => ?_
 rw [jKd h1,List.mem_map]
 constructor
 ·rintro ⟨z,hz,rfl⟩
  rcases jZi hz with rfl | ⟨hz,hne⟩
  ·exact .inl rfl
  ·exact .inr ⟨List.mem_map.2 ⟨z,hz,rfl⟩,hne⟩
 ·have hm : ∀ z : Eb,(z = y ∨ (z ∈ E ∧ z.iv.key ≠ y.iv.key)) → z ∈ jMc y E:=fun z hz => by
   unfold jMc
   rw [List.mem_append,List.mem_cons,List.mem_filter,List.mem_filter]
   rcases hz with rfl | ⟨h1,h2⟩
   ·exact .inr (.inl rfl)
   ·by_cases h3 : ltK z.iv.key y.iv.key = true
    ·exact .inl ⟨h1,h3⟩
    ·by_cases h4 : ltK y.iv.key z.iv.key = true
     ·exact .inr (.inr ⟨h1,h4⟩)
     ·exact absurd (jI0 (Bool.eq_false_iff.2 h3) (Bool.eq_false_iff.2 h4)) h2
  rintro (rfl | ⟨hp,hne⟩)
  ·exact ⟨y,hm y (.inl rfl),rfl⟩
  ·obtain ⟨z,hz,rfl⟩:=List.mem_map.1 hp
   exact ⟨z,hm z (.inr ⟨hz,hne⟩),rfl⟩
theorem jTp {E : List Eb} (h : (E.map Eb.blk).Nodup) {a b : Eb} (ha : a ∈ E) (hb : b ∈ E) (e : a.blk = b.blk) : a = b:=by
 induction E with
 | nil => cases ha
 | cons x l ih =>
  rw [List.map_cons,List.nodup_cons] at h
  rcases List.mem_cons.1 ha with ea | ha
  ·rcases List.mem_cons.1 hb with eb | hb
   ·rw [ea,eb]
   ·exact absurd (List.mem_map.2 ⟨b,hb,by rw [← e,ea]⟩) h.1
  ·rcases List.mem_cons.1 hb with eb | hb
   ·exact absurd (List.mem_map.2 ⟨a,ha,by rw [e,eb]⟩) h.1
   ·exact ih h.2 ha hb
theorem kH1 {y : Eb} {E : List Eb} (h : (E.map Eb.blk).Nodup) (hy : ∀ x ∈ E,x.blk ≠ y.blk) : ((jMc y E).map Eb.blk).Nodup:=by
 have key : ∀ (p q : Eb → Bool),(∀ x,¬ (p x = true ∧ q x = true)) → (((E.filter p) ++ y :: E.filter q).map Eb.blk).Nodup:=fun p q hpq => by
  rw [List.map_append,List.map_cons,List.nodup_append]
  have inj:=fun a ha b hb e => jTp h (a:=a) (b:=b) ha hb e
  refine ⟨(List.filter_sublist.map _).nodup h,List.nodup_cons.2 ⟨fun hm => ?_,(List.filter_sublist.map _).nodup h⟩,fun a ha b hb e => ?_⟩
  ·obtain ⟨x,hx,ex⟩:=List.mem_map.1 hm
   exact hy x (List.mem_filter.1 hx).1 ex
  ·obtain ⟨x,hx,rfl⟩:=List.mem_map.1 ha
   rcases List.mem_cons.1 hb with rfl | hb
   ·exact hy x (List.mem_filter.1 hx).1 e
   ·obtain ⟨z,hz,rfl⟩:=List.mem_map.1 hb
    have:=inj x (List.mem_filter.1 hx).1 z (List.mem_filter.1 hz).1 e
    subst this
    exact hpq x ⟨(List.mem_filter.1 hx).2,(List.mem_filter.1 hz).2⟩
 exact key _ _ fun x ⟨h1,h2⟩ => by
  have:=jI5 h1
  rw [h2] at this
  cases this
section
variable {L : jEk Sl Ls Jd Tb} {F : Nat → Prop} {w0 w : World} {b sd n : Nat} {st : Hs} {x : Sx} {R : jAd}
theorem jAb.addE {y : Eb} {n0 : Nat} (H : jAb F w0 w ((shP L b sd st x).and ((jAn y.blk (.cells y.cells 130)).and ((jA5 n0 y.a y.c y.iv.val).and R)))) (E' : List Eb) (hE : ∀ z ∈ E',z = y ∨ z ∈ x.E) (es : List Ent) : jAb F w0 w ((shP L b sd { st with ents:=es } { x with E:=E' }).and R):=by
 have H1:=H.mergeIn (A:=jGv x.E) (A':=jGv E') 6 rfl (fun h1 h2 z hz => (hE z hz).elim (fun e => by rw [e];exact h2) (h1 z)) fun k ⟨z,hz,e⟩ => (hE z hz).elim (fun ez => .inr (by rw [← e,ez];rfl)) fun hz => .inl ⟨z,hz,e⟩
 exact H1.mergeIn (A:=jEw x.E) (A':=jEw E') 7 rfl (fun h1 h2 z hz => (hE z hz).elim (fun e => by rw [e];exact jDi.base h2 (Nat.zero_le _)) (h1 z)) fun k ⟨z,hz,e⟩ => (hE z hz).elim (fun ez => .inr (by rw [ez] at e;exact e)) fun hz => .inl ⟨z,hz,e⟩
end
theorem jG7.on {w W : World} {F : Nat → Prop} {a : Option Addr} {c : Nat} {l : List UInt8} (h : jG7 w F a c l) (hg : Gr F w W) : Bs W a l.length c (jA6 l):=by
 rcases h.1 with h1 | ⟨bl,off,r⟩
 ·exact .inl h1
 ·refine .inr ⟨bl,off,r.at_,r.one,r.cap_,r.len_,r.bd,fun i hi => ?_,Nat.lt_of_lt_of_le r.old hg.size⟩
  have hb : W.heap[bl]? = w.heap[bl]?:=hg.block bl r.old (h.2 bl r.one (by rw [r.at_];rfl))
  rw [World.cell?_of_block (w:=w) hb]
  exact r.cell i hi
end
end Go.Proofs.YtkfeafmpaodagaaGreatDoor
