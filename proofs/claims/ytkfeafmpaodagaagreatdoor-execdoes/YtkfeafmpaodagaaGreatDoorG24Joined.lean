/- put of package shard. Conditions: the contracts of the packages beneath it; at most 900 stores, keys of at most 300 bytes, values of at most 3000. Store, Look, Use, Used and Len of package shard. Conditions: the contracts of the packages beneath it; at most 900 stores, keys of at most 300 bytes, values of at most 3000. -/
import Derived.Test.YtkfeafmpaodagaaGreatDoorG23Joined
import Derived.Test.YtkfeafmpaodagaaGreatDoorShardRoom
namespace Go.Proofs.YtkfeafmpaodagaaGreatDoor
set_option maxHeartbeats 16000000
section
open Go.RowKit Go.Shelf
variable {Sl : World → Nat → (Nat → Prop) → Sb → Prop} {Ls : World → Nat → (Nat → Prop) → Sr → Prop} {Jd : World → Nat → List Nat → Nat → Js → Prop} {Tb : World → Nat → (Nat → Prop) → Ts → Prop}
def ordH (st : Hs) (i : Iv) (had : Option Ent) : Sr:=match had with | none => jJ9 st.ord i.key | some _ => st.ord
def midH (st : Hs) (i : Iv) (had : Option Ent) : Hs:=⟨st.ents,jBd st had,ordH st i had,st.jd,st.drops⟩
def jWj (st : Hs) (i : Iv) (had : Option Ent) : Hs:=⟨st.ents,takeS (jBd st had) (jAl i),ordH st i had,st.jd,st.drops⟩
theorem jOg {W : World} {k : Nat} {i : Iv} {a : Option Addr} {c : Nat} {t : TypeId} (h : W.heap[k]? = some (.cells (itC (jAe i a c)) t (0,0))) : W.cell? ⟨k,0,none⟩ = some (.string i.key):=(jAk h).1
section
variable {L : jEk Sl Ls Jd Tb} {F : Nat → Prop} {w0 w : World} {b sd n : Nat} {st : Hs} {x : Sx} {R : jAd}
def PutA (L : jEk Sl Ls Jd Tb) (F : Nat → Prop) (w0 : World) (b sd : Nat) (R : jAd) (st : Hs) (E : List Eb) (ts : Ts) (k : Nat) (i : It) (wx : World) : Prop:=∃ x,jAb F w0 wx ((shP L b sd st x).and ((jAn k (.cells (itC i) 75)).and R)) ∧ x.E = E ∧ x.ts = ts
def PutC (L : jEk Sl Ls Jd Tb) (F : Nat → Prop) (w0 : World) (b sd : Nat) (R : jAd) (st : Hs) (E : List Eb) (ts : Ts) (k : Nat) (i : It) (ck : Ck) (kc : Nat) (wx : World) : Prop:=∃ x,jAb F w0 wx ((shP L b sd st x).and ((jAn kc (.cells #[.int .i64 ck.1,.int .i64 ck.2] 92)).and ((jAn k (.cells (itC i) 75)).and R))) ∧ x.E = E ∧ x.ts = ts
theorem jAb.boxW {W : World} {A : jAd} (H : jAb F w0 W.drew A) (o : Obj) : jAb F w0 (W.drew.alloc o) ((jAn W.heap.size o).and A):=H.box o
theorem jOx {W : World} {A : jAd} {i : Iv} {a : Option Addr} {c k : Nat} (H : jAb F w0 W ((shP L b sd st x).and ((jAn k (.cells (itC (jAe i a c)) 75)).and A))) : W.cell? ⟨b,1,none⟩ = some (.pointer (some ⟨x.sb,0,none⟩)) ∧ W.cell? ⟨k,0,none⟩ = some (.string i.key) ∧ W.cell? ⟨k,1,none⟩ = some (.slice a i.val.length c) ∧ W.cell? ⟨k,2,none⟩ = some (.int .u32 i.fl) ∧ W.cell? ⟨k,3,none⟩ = some (.int .i64 i.exp) ∧ W.cell? ⟨k,4,none⟩ = some (.int .u64 i.cas) ∧ W.cell? ⟨k,5,none⟩ = some (.int .i64 i.sec) ∧ W.cell? ⟨k,6,none⟩ = some (.int .u64 i.seq) ∧ W.cell? ⟨k,7,none⟩ = some (.bool i.st) ∧ W.cell? ⟨k,8,none⟩ = some (.bool i.won) ∧ W.cell? ⟨k,9,none⟩ = some (.bool i.seen):=by
 have h:=jAk (show W.heap[k]? = some (.cells (itC (jAe i a c)) 75 (0,0)) from H.rot.q.1)
 exact ⟨H.headC.2.1,h⟩
theorem jD1 {W : World} {A B : jAd} {i : Iv} {a : Option Addr} {c k : Nat} (H : jAb F w0 W ((shP L b sd st x).and (B.and ((jAn k (.cells (itC (jAe i a c)) 75)).and A)))) : W.cell? ⟨b,1,none⟩ = some (.pointer (some ⟨x.sb,0,none⟩)) ∧ W.cell? ⟨k,0,none⟩ = some (.string i.key) ∧ W.cell? ⟨k,1,none⟩ = some (.slice a i.val.length c) ∧ W.cell? ⟨k,2,none⟩ = some (.int .u32 i.fl) ∧ W.cell? ⟨k,3,none⟩ = some (.int .i64 i.exp) ∧ W.cell? ⟨k,4,none⟩ = some (.int .u64 i.cas) ∧ W.cell? ⟨k,5,none⟩ = some (.int .i64 i.sec) ∧ W.cell? ⟨k,6,none⟩ = some (.int .u64 i.seq) ∧ W.cell? ⟨k,7,none⟩ = some (.bool i.st) ∧ W.cell? ⟨k,8,none⟩ = some (.bool i.won) ∧ W.cell? ⟨k,9,none⟩ = some (.bool i.seen):=jOx H.unbox
theorem jLu {W : World} {A : jAd} {u v u' v' : Value} {kc : Nat} (H : jAb F w0 W ((shP L b sd st x).and ((jAn kc (.cells #[u,v] 92)).and A))) : jAb F w0 ((W.setCell ⟨kc,0,none⟩ u').setCell ⟨kc,1,none⟩ v') ((shP L b sd st x).and ((jAn kc (.cells #[u',v'] 92)).and A)):=((H.rot.setAt 0 u').setAt 1 v').rot
theorem jNj {W : World} {A : jAd} {u v : Value} {kc : Nat} (H : jAb F w0 W ((shP L b sd st x).and ((jAn kc (.cells #[u,v] 92)).and A))) : W.cell? ⟨kc,0,none⟩ = some u ∧ W.cell? ⟨kc,1,none⟩ = some v ∧ W.frozen? ⟨kc,0,none⟩ = false ∧ W.frozen? ⟨kc,1,none⟩ = false:=by
 have h : W.heap[kc]? = some (.cells #[u,v] 92 (0,0)):=H.rot.q.1
 exact ⟨by simp [World.cell?,h],by simp [World.cell?,h],frozen_of_row _ _ _ _ _ h,frozen_of_row _ _ _ _ _ h⟩
theorem jPr {W : World} {A : jAd} {i : Iv} {a : Option Addr} {c k kc : Nat} {ck : Ck} (H : jAb F w0 W ((shP L b sd st x).and ((jAn kc (.cells #[.int .i64 ck.1,.int .i64 ck.2] 92)).and ((jAn k (.cells (itC (jAe i a c)) 75)).and A)))) : W.cell? ⟨b,0,none⟩ = some (.pointer (some ⟨x.tb,0,none⟩)) ∧ (W.cell? ⟨kc,0,none⟩ = some (.int .i64 ck.1) ∧ W.cell? ⟨kc,1,none⟩ = some (.int .i64 ck.2)) ∧ W.cell? ⟨k,0,none⟩ = some (.string i.key) ∧ W.cell? ⟨k,1,none⟩ = some (.slice a i.val.length c) ∧ W.cell? ⟨k,2,none⟩ = some (.int .u32 i.fl) ∧ W.cell? ⟨k,3,none⟩ = some (.int .i64 i.exp) ∧ W.cell? ⟨k,4,none⟩ = some (.int .u64 i.cas) ∧ W.cell? ⟨k,5,none⟩ = some (.int .i64 i.sec) ∧ W.cell? ⟨k,6,none⟩ = some (.int .u64 i.seq) ∧ W.cell? ⟨k,7,none⟩ = some (.bool i.st) ∧ W.cell? ⟨k,8,none⟩ = some (.bool i.won) ∧ W.cell? ⟨k,9,none⟩ = some (.bool i.seen):=by
 have h1:=jNj H
 exact ⟨H.headC.1,⟨h1.1,h1.2.1⟩,(jD1 H).2⟩
theorem kBw {W : World} {x' : Sx} {A B : jAd} {i : Iv} {hE : Option Ent} {ck : Ck} {blk n0 c' : Nat} {a' : Option Addr}
  (H : jAb F w0 W ((shP L b sd (jWj st i hE) x').and ((jAn blk (.cells #[.string i.key,.slice a' i.val.length c',.int .u32 i.fl,.int .i64 i.exp,.int .u64 i.cas,.int .i64 i.sec,.int .u64 i.seq,.bool i.st,.bool i.won,.bool i.seen,.int .i64 ck.1,.int .i64 ck.2] 130)).and ((jA5 n0 a' c' i.val).and (A.and (B.and R))))))
  (hE1 : x'.E = x.E) (hts : x'.ts = putT x.ts i.key blk) (f : Fit n st x) (gd : jAo (n + 1) (jJv st i hE)) (hck : jBp (jBd st hE) (jAl i) = ck) : ∃ E,jH9 L F w0 W b sd (n + 1) R (jJv st i hE) E:=by
 have hne : ∀ z ∈ x'.E,z.blk ≠ blk:=fun z hz e => H.q.2.2 z.blk ⟨6,jGv x'.E,rfl,z,hz,rfl⟩ (.inl e)
 have H1:=jAb.addE (y:=⟨blk,i,ck,a',c'⟩) H (jMc ⟨blk,i,ck,a',c'⟩ x'.E) (fun z hz => (jZi hz).imp id And.left) (jCp (i,ck) st.ents)
 have hst : jJv st i hE = { jWj st i hE with ents:=jCp (i,ck) st.ents }:=by rw [← hck];rfl
 rw [hst] at gd
 rw [hst]
 refine ⟨_,_,H1.unbox.unbox,⟨?_,?_,?_,?_,gd⟩,rfl⟩
 ·show jCj x'.ts 901
  rw [hts]
  refine jZ1 f.small _ _ ?_
  have hr : jA9 (x'.E.map Eb.ent):=by rw [hE1,← f.ents];exact f.good.rise
  have h9 : (jCp (i,ck) st.ents).length ≤ 901:=gd.nine.1
  have e1 : jCp (i,ck) st.ents = (jMc ⟨blk,i,ck,a',c'⟩ x'.E).map Eb.ent:=by rw [jRd,hE1,← f.ents];rfl
  have e2 : jEs i.key (blk : Int) x.ts.l = (jMc ⟨blk,i,ck,a',c'⟩ x'.E).map Eb.kv:=by
   rw [f.tab,← hE1]
   exact (kBd ⟨blk,i,ck,a',c'⟩ hr).symm
  rw [e1,List.length_map] at h9
  rw [e2,List.length_map]
  exact h9
 ·show x'.ts.l = _
  have hr : jA9 (x'.E.map Eb.ent):=by rw [hE1,← f.ents];exact f.good.rise
  rw [hts,putT_l,f.tab,← hE1]
  exact (kBd ⟨blk,i,ck,a',c'⟩ hr).symm
 ·show jCp (i,ck) st.ents = _
  rw [jRd,hE1,← f.ents]
  rfl
 ·exact kH1 (by rw [hE1];exact f.blks) hne
set_option maxRecDepth 100000 in
theorem kMk (H : jAb F w0 w ((shP L b sd st x).and R)) (f : Fit n st x) (hn : n ≤ 4398046511104) (hl : n ≤ 900 ∨ st.slab.bud ≤ 57600) (i : Iv) (hi : i.ok) (hs2 : jAl i ≤ 2048) (a : Option Addr) (c : Nat) (hrd : jG7 w0 F a c i.val) (hh : jBq i.key x.E = none) (hfit : jB3 st.slab (jAl i) (jD0 none) = true) :
  Calls Tryz.prog 165 #[.pointer (some ⟨b,0,none⟩),.agg (itC (jAe i a c)),.pointer none] w fun e w' => (∃ v,e = .returned v) ∧ ∃ E,jH9 L F w0 w' b sd (n + 1) R (jJv st i none) E:=by
 have mixed : Tryz.prog.follows .mixedOrders = true:=by kernel_rfl
 have hk3:=hi.key
 have hv3:=hi.val
 have hv9 : i.val.length ≤ 100000:=by unfold jAl at hs2;omega
 have hkm : i.key.size ≤ maxLen:=Nat.le_trans hk3 (by decide)
 have HZ:=jAa (fun W => L.it.size (jAe i a c) W (Nat.le_trans hk3 (by decide)) (Nat.le_trans hv3 (by decide)))
 rw [show (50 + ((jAe i a c).key.size : Nat) + ((jAe i a c).vl : Nat) : Int) = jAl i from rfl] at HZ
 have hsz : I64 (jAl i):=by
  unfold jAl
  constructor <;> omega
 have hfe : jA0 i.key st.ents = none:=f.none hh
 have hin : ∀ e : Ent,none = some e → e.2 ∈ st.slab.inn:=fun (e : Ent) he => f.good.chunks.mem_iff.1 (List.mem_map.2 ⟨e,(jBs (hfe.trans he)).1,rfl⟩)
 have hte:=jO9 none rfl hin hfit
 have hsS:=f.smallS hn
 have hsF : Small (jBd st none) 10000:=jH4 (f.good.nine.2 : Small (jBd st none) 9000) (by decide)
 have h5:=f.small5 hn
 have hlR:=f.lenR hn
 have gd:=jAa (jPc f.good hi hs2 hfe hfit (by have:=f.good.few;omega) hl)
 obtain ⟨ck,hckE⟩ : ∃ ck,jBp (jBd st none) (jAl i) = ck:=⟨_,rfl⟩
 have HCK:=jAa hckE
 have HTE:=jAa hte
 have HFF:=jAa f
 have H0:=(H.box (.cells (itC (jAe i a c)) 75)).rot
 clear H hckE hte hin hfe hfit f
 go_enter Tryz.func165,Tryz.ntmps165
 go_upto_region 3 with fail
 replace H0:=H0.drew
 obtain ⟨-,-,c2,-⟩:=H0.headC
 have c3:=jOg H0.rot.q.1
 go_region_held (fun w' => w'.cell? ⟨b,2,none⟩ = some (.pointer (some ⟨x.ob,0,none⟩)) ∧ w'.cell? ⟨w.heap.size,0,none⟩ = some (.string i.key)) (first | exact ⟨d2,d3⟩ | exact ⟨c2,c3⟩) ((go_at_call 194;refine (L.ls.add H0.list hlR i.key hkm).mono ?_;rintro e w1 ⟨rfl,own1,hL,hg,hgr⟩;have H1:=H0.toList hL hg hgr;clear hL hg hgr;obtain ⟨-,-,d2,-⟩:=H1.headC;have d3:=jOg H1.rot.q.1))
 go_upto_region 4 with fail
 have HA : PutA L F w0 b sd R (midH st i none) x.E x.ts w.heap.size (jAe i a c) w1.drew:=⟨_,H1.drew,rfl,rfl⟩
 clear H1 H0
 go_cut [6,7] from 26 to 35 (fun s _e wx => ∃ kc,s = .pointer (some ⟨kc,0,none⟩) ∧ PutC L F w0 b sd R (jWj st i none) x.E x.ts w.heap.size (jAe i a c) ck kc wx)
 case first =>
  obtain ⟨x1,H,hE1,ht1⟩:=HA
  replace H:=jAa H
  go_region_held3 (fun w' => w'.cell? ⟨b,1,none⟩ = some (.pointer (some ⟨x1.sb,0,none⟩)) ∧ w'.cell? ⟨w.heap.size,0,none⟩ = some (.string i.key) ∧ w'.cell? ⟨w.heap.size,1,none⟩ = some (.slice a i.val.length c) ∧ w'.cell? ⟨w.heap.size,2,none⟩ = some (.int .u32 i.fl) ∧ w'.cell? ⟨w.heap.size,3,none⟩ = some (.int .i64 i.exp) ∧ w'.cell? ⟨w.heap.size,4,none⟩ = some (.int .u64 i.cas) ∧ w'.cell? ⟨w.heap.size,5,none⟩ = some (.int .i64 i.sec) ∧ w'.cell? ⟨w.heap.size,6,none⟩ = some (.int .u64 i.seq) ∧ w'.cell? ⟨w.heap.size,7,none⟩ = some (.bool i.st) ∧ w'.cell? ⟨w.heap.size,8,none⟩ = some (.bool i.won) ∧ w'.cell? ⟨w.heap.size,9,none⟩ = some (.bool i.seen)) (first | (have q:=jOx H.out;exact q) | (have q:=jD1 H.out;exact q) | (have q:=jD1 (H.out.boxW (.cells #[.int .i64 0,.int .i64 0] 92)).rot;exact q) | (have q:=jD1 (H.out.box (.cells #[.int .i64 0,.int .i64 0] 92)).rot;exact q) | (have q:=jD1 (jLu (u':=.int .i64 ck.1) (v':=.int .i64 ck.2) H.out);exact q) | (have q:=jD1 (H.out.box (.cells #[.int .i64 ck.1,.int .i64 ck.2] 92)).rot;exact q))
   ((first
    | (go_at_call 163;refine (HZ.out _).mono ?_;rintro e w2 ⟨rfl,hg⟩;(first | (have H2:=H.out.step hg.grown) | (have H2:=(H.out.boxW (.cells #[.int .i64 0,.int .i64 0] 92)).rot.step hg.grown) | (have H2:=(H.out.box (.cells #[.int .i64 0,.int .i64 0] 92)).rot.step hg.grown));replace H:=jAa H2;clear H2 hg)
    | (go_at_call 195;refine (L.sl.take H.out.slab hsF (jAl i) hsz).mono ?_;rintro e w3 ⟨he,own3,hS,hg,hgr⟩;have he1 : e = .returned (.tuple #[ckV (jBp (jBd st none) (jAl i)),.int .i64 (jB1 (jBd st none) (jAl i))]):=he;rw [HCK.out,HTE.out] at he1;have he2 : e = .returned (.tuple #[.agg #[.int .i64 ck.1,.int .i64 ck.2],.int .i64 0]):=he1;subst he2;have H3:=H.out.toSlab hS hg hgr;replace H:=jAa H3;clear hS hg hgr he he1;try (obtain ⟨g0,g1,g2,g3⟩:=jNj H3))
    | (go_at_call 195;refine (L.sl.take (H.out.box (.cells #[.int .i64 0,.int .i64 0] 92)).rot.slab hsF (jAl i) hsz).mono ?_;rintro e w3 ⟨he,own3,hS,hg,hgr⟩;have he1 : e = .returned (.tuple #[ckV (jBp (jBd st none) (jAl i)),.int .i64 (jB1 (jBd st none) (jAl i))]):=he;rw [HCK.out,HTE.out] at he1;have he2 : e = .returned (.tuple #[.agg #[.int .i64 ck.1,.int .i64 ck.2],.int .i64 0]):=he1;subst he2;have H3:=(H.out.box (.cells #[.int .i64 0,.int .i64 0] 92)).rot.toSlab hS hg hgr;replace H:=jAa H3;clear hS hg hgr he he1;try (obtain ⟨g0,g1,g2,g3⟩:=jNj H3))))
  all_goals
   go_wp2_with fail
   go_meet
   first
    | exact ⟨_,rfl,_,(H.out.box (.cells #[.int .i64 ck.1,.int .i64 ck.2] 92)).rot,hE1,ht1⟩
    | exact ⟨_,rfl,_,jLu (H.out.box (.cells #[.int .i64 0,.int .i64 0] 92)).rot,hE1,ht1⟩
    | exact ⟨_,rfl,_,jLu H.out,hE1,ht1⟩
 case rest =>
  clear HA HZ
  obtain ⟨kc,rfl,x2,H2,hE2,ht2⟩:=hcut
  have h52 : jCj x2.ts 5000:=by rw [ht2];exact h5
  go_upto_region 5 with fail
  have H:=jAa H2.drew
  clear H2
  go_region_held3 (fun w' => w'.cell? ⟨b,0,none⟩ = some (.pointer (some ⟨x2.tb,0,none⟩)) ∧ (w'.cell? ⟨kc,0,none⟩ = some (.int .i64 ck.1) ∧ w'.cell? ⟨kc,1,none⟩ = some (.int .i64 ck.2)) ∧ w'.cell? ⟨w.heap.size,0,none⟩ = some (.string i.key) ∧ w'.cell? ⟨w.heap.size,1,none⟩ = some (.slice a i.val.length c) ∧ w'.cell? ⟨w.heap.size,2,none⟩ = some (.int .u32 i.fl) ∧ w'.cell? ⟨w.heap.size,3,none⟩ = some (.int .i64 i.exp) ∧ w'.cell? ⟨w.heap.size,4,none⟩ = some (.int .u64 i.cas) ∧ w'.cell? ⟨w.heap.size,5,none⟩ = some (.int .i64 i.sec) ∧ w'.cell? ⟨w.heap.size,6,none⟩ = some (.int .u64 i.seq) ∧ w'.cell? ⟨w.heap.size,7,none⟩ = some (.bool i.st) ∧ w'.cell? ⟨w.heap.size,8,none⟩ = some (.bool i.won) ∧ w'.cell? ⟨w.heap.size,9,none⟩ = some (.bool i.seen)) (first | (have q:=jPr H.out;exact q) | (have q:=jPr H.out.unbox;exact q) | (have q:=jPr H.out.unbox.unbox;exact q) | (have q:=jPr (H.out.box (.cells #[.string i.key,.slice a5 i.val.length c5,.int .u32 i.fl,.int .i64 i.exp,.int .u64 i.cas,.int .i64 i.sec,.int .u64 i.seq,.bool i.st,.bool i.won,.bool i.seen,.int .i64 ck.1,.int .i64 ck.2] 130)).rot.unbox.unbox;exact q))
   ((first
    | (go_at_call 54;refine (jNh i hv9 (hrd.on H.out.gr)).mono ?_;rintro e w5 ⟨a5,c5,he,hv,hg⟩;have he2 : e = .returned (.agg #[.string i.key,.slice a5 i.val.length c5,.int .u32 i.fl,.int .i64 i.exp,.int .u64 i.cas,.int .i64 i.sec,.int .u64 i.seq,.bool i.st,.bool i.won,.bool i.seen]):=he;subst he2;have H5:=(hv.new H.out hg).rot;replace H:=jAa H5;clear H5 hv hg he)
    | (go_at_call 196;refine (L.tb.put (H.out.box _).rot.tabl h52 i.key hk3 (w5.heap.size : Int) (Int.natCast_nonneg _)).mono ?_;rintro e w6 ⟨⟨vv,rfl⟩,own6,hT,hg,hgr⟩;have H6:=(H.out.box _).rot.toTab hT hg hgr;replace H:=jAa H6;clear H6 hT hg hgr)))
  all_goals
   go_wp2_with fail
   go_end0
   exact ⟨⟨_,rfl⟩,kBw H.out hE2 (by show putT x2.ts i.key _ = _;rw [ht2]) HFF.out gd.out HCK.out⟩
set_option maxRecDepth 100000 in
theorem kLf (H : jAb F w0 w ((shP L b sd st x).and R)) (f : Fit n st x) (hn : n ≤ 4398046511104) (hl : n ≤ 900 ∨ st.slab.bud ≤ 57600) (i : Iv) (hi : i.ok) (hs2 : jAl i ≤ 2048) (a : Option Addr) (c : Nat) (hrd : jG7 w0 F a c i.val) (y : Eb) (hh : jBq i.key x.E = some y) (hfit : jB3 st.slab (jAl i) (jD0 (some y.ent)) = true) :
  Calls Tryz.prog 165 #[.pointer (some ⟨b,0,none⟩),.agg (itC (jAe i a c)),.pointer (some ⟨y.blk,0,none⟩)] w fun e w' => (∃ v,e = .returned v) ∧ ∃ E,jH9 L F w0 w' b sd (n + 1) R (jJv st i (some y.ent)) E:=by
 have mixed : Tryz.prog.follows .mixedOrders = true:=by kernel_rfl
 have hk3:=hi.key
 have hv3:=hi.val
 have hv9 : i.val.length ≤ 100000:=by unfold jAl at hs2;omega
 have hkm : i.key.size ≤ maxLen:=Nat.le_trans hk3 (by decide)
 have HZ:=jAa (fun W => L.it.size (jAe i a c) W (Nat.le_trans hk3 (by decide)) (Nat.le_trans hv3 (by decide)))
 rw [show (50 + ((jAe i a c).key.size : Nat) + ((jAe i a c).vl : Nat) : Int) = jAl i from rfl] at HZ
 have hsz : I64 (jAl i):=by
  unfold jAl
  constructor <;> omega
 have hfe : jA0 i.key st.ents = some y.ent:=f.some hh
 have hin : ∀ e : Ent,(some y.ent) = some e → e.2 ∈ st.slab.inn:=fun (e : Ent) he => f.good.chunks.mem_iff.1 (List.mem_map.2 ⟨e,(jBs (hfe.trans he)).1,rfl⟩)
 have hte:=jO9 (some y.ent) rfl hin hfit
 have hsS:=f.smallS hn
 have hsF : Small (jBd st (some y.ent)) 10000:=jH4 (kC9 f.good.nine.2 _) (by decide)
 have h5:=f.small5 hn
 have hlR:=f.lenR hn
 have hy:=(jFl hh).1
 have hck:=f.ckOk hn hy
 have gd:=jAa (jPc f.good hi hs2 hfe hfit (by have:=f.good.few;omega) hl)
 obtain ⟨ck,hckE⟩ : ∃ ck,jBp (jBd st (some y.ent)) (jAl i) = ck:=⟨_,rfl⟩
 have HCK:=jAa hckE
 have HTE:=jAa hte
 have HFF:=jAa f
 have H0:=(H.box (.cells (itC (jAe i a c)) 75)).rot
 clear H hckE hte hin hfe hfit f
 go_enter Tryz.func165,Tryz.ntmps165
 go_upto_region 2 with fail
 replace H0:=H0.drew
 obtain ⟨-,c1,-⟩:=H0.headC
 obtain ⟨-,k1,k2,-⟩:=jGj (H0.entAt hy)
 go_region_held (fun w' => w'.cell? ⟨b,1,none⟩ = some (.pointer (some ⟨x.sb,0,none⟩)) ∧ w'.cell? ⟨y.blk,10,none⟩ = some (.int .i64 y.ck.1) ∧ w'.cell? ⟨y.blk,11,none⟩ = some (.int .i64 y.ck.2)) (first | exact ⟨d1,k3,k4⟩ | exact ⟨c1,k1,k2⟩) ((go_at_call 141;refine (L.sl.free H0.slab hsS y.ck hck).mono ?_;rintro e w1 ⟨rfl,own1,hS,hg,hgr⟩;have H1:=H0.toSlab hS hg hgr;clear hS hg hgr;obtain ⟨-,d1,-⟩:=H1.headC;obtain ⟨-,k3,k4,-⟩:=jGj (H1.entAt hy)))
 go_upto_region 4 with fail
 have HA : PutA L F w0 b sd R (midH st i (some y.ent)) x.E x.ts w.heap.size (jAe i a c) w1.drew:=⟨_,H1.drew,rfl,rfl⟩
 clear H1 H0
 go_cut [6,7] from 26 to 35 (fun s _e wx => ∃ kc,s = .pointer (some ⟨kc,0,none⟩) ∧ PutC L F w0 b sd R (jWj st i (some y.ent)) x.E x.ts w.heap.size (jAe i a c) ck kc wx)
 case first =>
  obtain ⟨x1,H,hE1,ht1⟩:=HA
  replace H:=jAa H
  go_region_held3 (fun w' => w'.cell? ⟨b,1,none⟩ = some (.pointer (some ⟨x1.sb,0,none⟩)) ∧ w'.cell? ⟨w.heap.size,0,none⟩ = some (.string i.key) ∧ w'.cell? ⟨w.heap.size,1,none⟩ = some (.slice a i.val.length c) ∧ w'.cell? ⟨w.heap.size,2,none⟩ = some (.int .u32 i.fl) ∧ w'.cell? ⟨w.heap.size,3,none⟩ = some (.int .i64 i.exp) ∧ w'.cell? ⟨w.heap.size,4,none⟩ = some (.int .u64 i.cas) ∧ w'.cell? ⟨w.heap.size,5,none⟩ = some (.int .i64 i.sec) ∧ w'.cell? ⟨w.heap.size,6,none⟩ = some (.int .u64 i.seq) ∧ w'.cell? ⟨w.heap.size,7,none⟩ = some (.bool i.st) ∧ w'.cell? ⟨w.heap.size,8,none⟩ = some (.bool i.won) ∧ w'.cell? ⟨w.heap.size,9,none⟩ = some (.bool i.seen)) (first | (have q:=jOx H.out;exact q) | (have q:=jD1 H.out;exact q) | (have q:=jD1 (H.out.boxW (.cells #[.int .i64 0,.int .i64 0] 92)).rot;exact q) | (have q:=jD1 (H.out.box (.cells #[.int .i64 0,.int .i64 0] 92)).rot;exact q) | (have q:=jD1 (jLu (u':=.int .i64 ck.1) (v':=.int .i64 ck.2) H.out);exact q) | (have q:=jD1 (H.out.box (.cells #[.int .i64 ck.1,.int .i64 ck.2] 92)).rot;exact q))
   ((first
    | (go_at_call 163;refine (HZ.out _).mono ?_;rintro e w2 ⟨rfl,hg⟩;(first | (have H2:=H.out.step hg.grown) | (have H2:=(H.out.boxW (.cells #[.int .i64 0,.int .i64 0] 92)).rot.step hg.grown) | (have H2:=(H.out.box (.cells #[.int .i64 0,.int .i64 0] 92)).rot.step hg.grown));replace H:=jAa H2;clear H2 hg)
    | (go_at_call 195;refine (L.sl.take H.out.slab hsF (jAl i) hsz).mono ?_;rintro e w3 ⟨he,own3,hS,hg,hgr⟩;have he1 : e = .returned (.tuple #[ckV (jBp (jBd st (some y.ent)) (jAl i)),.int .i64 (jB1 (jBd st (some y.ent)) (jAl i))]):=he;rw [HCK.out,HTE.out] at he1;have he2 : e = .returned (.tuple #[.agg #[.int .i64 ck.1,.int .i64 ck.2],.int .i64 0]):=he1;subst he2;have H3:=H.out.toSlab hS hg hgr;replace H:=jAa H3;clear hS hg hgr he he1;try (obtain ⟨g0,g1,g2,g3⟩:=jNj H3))
    | (go_at_call 195;refine (L.sl.take (H.out.box (.cells #[.int .i64 0,.int .i64 0] 92)).rot.slab hsF (jAl i) hsz).mono ?_;rintro e w3 ⟨he,own3,hS,hg,hgr⟩;have he1 : e = .returned (.tuple #[ckV (jBp (jBd st (some y.ent)) (jAl i)),.int .i64 (jB1 (jBd st (some y.ent)) (jAl i))]):=he;rw [HCK.out,HTE.out] at he1;have he2 : e = .returned (.tuple #[.agg #[.int .i64 ck.1,.int .i64 ck.2],.int .i64 0]):=he1;subst he2;have H3:=(H.out.box (.cells #[.int .i64 0,.int .i64 0] 92)).rot.toSlab hS hg hgr;replace H:=jAa H3;clear hS hg hgr he he1;try (obtain ⟨g0,g1,g2,g3⟩:=jNj H3))))
  all_goals
   go_wp2_with fail
   go_meet
   first
    | exact ⟨_,rfl,_,(H.out.box (.cells #[.int .i64 ck.1,.int .i64 ck.2] 92)).rot,hE1,ht1⟩
    | exact ⟨_,rfl,_,jLu (H.out.box (.cells #[.int .i64 0,.int .i64 0] 92)).rot,hE1,ht1⟩
    | exact ⟨_,rfl,_,jLu H.out,hE1,ht1⟩
 case rest =>
  clear HA HZ
  obtain ⟨kc,rfl,x2,H2,hE2,ht2⟩:=hcut
  have h52 : jCj x2.ts 5000:=by rw [ht2];exact h5
  go_upto_region 5 with fail
  have H:=jAa H2.drew
  clear H2
  go_region_held3 (fun w' => w'.cell? ⟨b,0,none⟩ = some (.pointer (some ⟨x2.tb,0,none⟩)) ∧ (w'.cell? ⟨kc,0,none⟩ = some (.int .i64 ck.1) ∧ w'.cell? ⟨kc,1,none⟩ = some (.int .i64 ck.2)) ∧ w'.cell? ⟨w.heap.size,0,none⟩ = some (.string i.key) ∧ w'.cell? ⟨w.heap.size,1,none⟩ = some (.slice a i.val.length c) ∧ w'.cell? ⟨w.heap.size,2,none⟩ = some (.int .u32 i.fl) ∧ w'.cell? ⟨w.heap.size,3,none⟩ = some (.int .i64 i.exp) ∧ w'.cell? ⟨w.heap.size,4,none⟩ = some (.int .u64 i.cas) ∧ w'.cell? ⟨w.heap.size,5,none⟩ = some (.int .i64 i.sec) ∧ w'.cell? ⟨w.heap.size,6,none⟩ = some (.int .u64 i.seq) ∧ w'.cell? ⟨w.heap.size,7,none⟩ = some (.bool i.st) ∧ w'.cell? ⟨w.heap.size,8,none⟩ = some (.bool i.won) ∧ w'.cell? ⟨w.heap.size,9,none⟩ = some (.bool i.seen)) (first | (have q:=jPr H.out;exact q) | (have q:=jPr H.out.unbox;exact q) | (have q:=jPr H.out.unbox.unbox;exact q) | (have q:=jPr (H.out.box (.cells #[.string i.key,.slice a5 i.val.length c5,.int .u32 i.fl,.int .i64 i.exp,.int .u64 i.cas,.int .i64 i.sec,.int .u64 i.seq,.bool i.st,.bool i.won,.bool i.seen,.int .i64 ck.1,.int .i64 ck.2] 130)).rot.unbox.unbox;exact q))
   ((first
    | (go_at_call 54;refine (jNh i hv9 (hrd.on H.out.gr)).mono ?_;rintro e w5 ⟨a5,c5,he,hv,hg⟩;have he2 : e = .returned (.agg #[.string i.key,.slice a5 i.val.length c5,.int .u32 i.fl,.int .i64 i.exp,.int .u64 i.cas,.int .i64 i.sec,.int .u64 i.seq,.bool i.st,.bool i.won,.bool i.seen]):=he;subst he2;have H5:=(hv.new H.out hg).rot;replace H:=jAa H5;clear H5 hv hg he)
    | (go_at_call 196;refine (L.tb.put (H.out.box _).rot.tabl h52 i.key hk3 (w5.heap.size : Int) (Int.natCast_nonneg _)).mono ?_;rintro e w6 ⟨⟨vv,rfl⟩,own6,hT,hg,hgr⟩;have H6:=(H.out.box _).rot.toTab hT hg hgr;replace H:=jAa H6;clear H6 hT hg hgr)))
  all_goals
   go_wp2_with fail
   go_end0
   exact ⟨⟨_,rfl⟩,kBw H.out hE2 (by show putT x2.ts i.key _ = _;rw [ht2]) HFF.out gd.out HCK.out⟩
theorem put_in (H : jAb F w0 w ((shP L b sd st x).and R)) (f : Fit n st x) (hn : n ≤ 4398046511104) (hl : n ≤ 900 ∨ st.slab.bud ≤ 57600) (i : Iv) (hi : i.ok) (hs2 : jAl i ≤ 2048) (a : Option Addr) (c : Nat) (hrd : jG7 w0 F a c i.val) (had : Option Eb) (hh : jBq i.key x.E = had) (hfit : jB3 st.slab (jAl i) (jD0 (had.map Eb.ent)) = true) :
  Calls Tryz.prog 165 #[.pointer (some ⟨b,0,none⟩),.agg (itC (jAe i a c)),ptrB had] w fun e w' => (∃ v,e = .returned v) ∧ ∃ E,jH9 L F w0 w' b sd (n + 1) R (jJv st i (had.map Eb.ent)) E:=by
 cases had with
 | none => exact kMk H f hn hl i hi hs2 a c hrd hh hfit
 | some y => exact kLf H f hn hl i hi hs2 a c hrd y hh hfit
end
end
section
open Go.RowKit Go.Shelf
variable {Sl : World → Nat → (Nat → Prop) → Sb → Prop} {Ls : World → Nat → (Nat → Prop) → Sr → Prop} {Jd : World → Nat → List Nat → Nat → Js → Prop} {Tb : World → Nat → (Nat → Prop) → Ts → Prop}
section
variable {L : jEk Sl Ls Jd Tb} {F : Nat → Prop} {w0 w : World} {b sd n : Nat} {st : Hs} {x : Sx} {R : jAd}
theorem jWn (H : jAb F w0 w ((shP L b sd st x).and R)) (f : Fit n st x) (hn : n ≤ 4398046511104) (i : Iv) (hi : i.ok) (a : Option Addr) (c : Nat) (en : En) (hen : en.ok) (had : Option Eb) (hh : jBq i.key x.E = had) :
  Calls Tryz.prog 164 #[.pointer (some ⟨b,0,none⟩),.agg (itC (jAe i a c)),ptrB had,.agg (enC en)] w (jQe L F w0 b sd n R i had (jAz sd i (had.map Eb.ent) en st)):=by
 cases had with
 | none => exact kH3 H f hn i hi a c en hen hh
 | some y => exact kHf H f hn i hi a c en hen y hh
theorem jSj (f : Fit n st x) (s : ByteArray) (en : En) : jBq s (jEm s en x.E) = jE6 s en x.E ∧ (jE6 s en x.E).map Eb.ent = jAp st s en:=by
 unfold jEm jE6 jAp
 rw [f.find]
 cases hf : jBq s x.E with
 | none => exact ⟨hf,rfl⟩
 | some y =>
  dsimp only [Option.map_some]
  by_cases hl : jCn y.iv en = true
  ·rw [if_pos hl,if_pos hl,if_pos (show jCn y.ent.1 en = true from hl)]
   exact ⟨hf,rfl⟩
  ·rw [if_neg hl,if_neg hl,if_neg (show ¬ jCn y.ent.1 en = true from hl)]
   refine ⟨?_,rfl⟩
   unfold jBq
   rw [List.find?_eq_none]
   intro z hz
   have:=(jYf.1 hz).2
   simpa using this
set_option maxRecDepth 100000 in
theorem kJ9 (H : jAb F w0 w ((shP L b sd st x).and R)) (f : Fit n st x) (hn : n ≤ 4398046511104) (hl : n ≤ 900 ∨ st.slab.bud ≤ 57600) (i : Iv) (hi : i.ok) (a : Option Addr) (c : Nat) (hrd : jG7 w0 F a c i.val) (en : En) (hen : en.ok) :
  Calls Tryz.prog 135 #[.pointer (some ⟨b,0,none⟩),.agg (itC (jAe i a c)),.agg (enC en)] w fun e w' => e = .returned (.int .i64 (jBk sd st i en).1) ∧ ∃ E,jH9 L F w0 w' b sd (n + 1) R (jBk sd st i en).2 E:=by
 have hk3:=hi.key
 have hv3:=hi.val
 have HZ:=jAa (fun W => L.it.size (jAe i a c) W (Nat.le_trans hk3 (by decide)) (Nat.le_trans hv3 (by decide)))
 rw [show (50 + ((jAe i a c).key.size : Nat) + ((jAe i a c).vl : Nat) : Int) = jAl i from rfl] at HZ
 have hsz : I64 (jAl i):=by
  unfold jAl
  constructor <;> omega
 have HC:=jAa (fun W => L.sl.cls (jAl i) hsz W)
 have H0:=((H.box (.cells (itC (jAe i a c)) 75)).box (.cells (enC en) 35)).rin.rot.rin
 rw [World.size_alloc] at H0
 clear H
 by_cases hbig : 2048 < jAl i
 ·have hst : jBk sd st i en = (4,st):=by unfold jBk;rw [if_pos hbig]
  have hce : jBo (jAl i) = 4:=by unfold jBo;rw [if_neg (by omega)]
  have HCE:=jAa hce
  rw [hst]
  clear hst hce hbig
  go_enter Tryz.func135,Tryz.ntmps135
  go_wp2_with (first
   | (refine ldI w.heap.size (jAe i a c) rfl _ rfl rfl H0.rot.q.1 ?_)
   | (go_at_call 163;refine (HZ.out _).mono ?_;rintro e w1 ⟨rfl,hg⟩;have H1:=H0.step hg.grown;clear hg)
   | (go_at_call 162;refine (HC.out _).mono ?_;rintro e w2 ⟨he,hg⟩;rw [HCE.out] at he;subst he;have H2:=H1.step hg;clear hg))
  go_ret
  exact ⟨rfl,x.E,x,H2.unbox.unbox,⟨f.small,f.tab,f.ents,f.blks,jH8 f.good (Nat.le_succ n) (hl.imp Nat.succ_le_succ id)⟩,rfl⟩
 ·have hce : jBo (jAl i) = 0:=by unfold jBo;rw [if_pos (by omega)]
  have hs2 : jAl i ≤ 2048:=by omega
  have HCE:=jAa hce
  obtain ⟨lf1,lf2⟩:=jSj f i.key en
  have gl:=jCf f.good i.key en
  have rg:=jKv sd i (jAp st i.key en) en _ _ rfl gl
  have hst : jBk sd st i en = if (jAz sd i (jAp st i.key en) en (jAy st i.key en)).1 = 0 then (0,jJv (jAz sd i (jAp st i.key en) en (jAy st i.key en)).2 i (jAp st i.key en)) else jAz sd i (jAp st i.key en) en (jAy st i.key en):=by
   unfold jBk
   rw [if_neg hbig]
  rw [← lf2] at hst rg
  obtain ⟨had,hhad⟩ : ∃ had,jE6 i.key en x.E = had:=⟨_,rfl⟩
  rw [hhad] at lf1 hst rg
  obtain ⟨rr,hrr⟩ : ∃ rr,jAz sd i (had.map Eb.ent) en (jAy st i.key en) = rr:=⟨_,rfl⟩
  rw [hrr] at hst rg
  have HL4 : Hid (n ≤ 900 ∨ rr.2.slab.bud ≤ 57600):=by
   show _ ∨ _
   rw [rg.1.bud,(jGq (en:=en)).2.1]
   exact hl
  have HRR:=jAa hrr
  have HHAD:=jAa hhad
  have HLF:=jAa lf1
  clear hrr hhad lf1 lf2 gl hbig hce
  by_cases h0 : rr.1 = 0
  ·have hfit:=jAa (rg.2.1 h0)
   rw [if_pos h0] at hst
   rw [hst]
   have HR0:=jAa h0
   clear hst rg h0
   go_enter Tryz.func135,Tryz.ntmps135
   go_wp2_with (first
    | (refine ldI w.heap.size (jAe i a c) rfl _ rfl rfl H0.rot.q.1 ?_)
    | (go_at_call 163;refine (HZ.out _).mono ?_;rintro e w1 ⟨rfl,hg⟩;have H1:=H0.step hg.grown;clear hg)
    | (go_at_call 162;refine (HC.out _).mono ?_;rintro e w2 ⟨he,hg⟩;rw [HCE.out] at he;subst he;have H2:=H1.step hg;clear hg H0;have c2:=jOg H2.rot.q.1)
    | (have t:=H2;clear t;refine ldE (w.heap.size + 1) en rfl _ rfl rfl H2.rot.right.rot.q.1 ?_)
    | (go_at_call 53;refine (jFq H2 f hn i.key hk3 en hen).mono ?_;rw [HHAD.out];rintro e w3 ⟨rfl,x3,H3,f3,hE3⟩;clear H2 c2)
    | (refine ldI w.heap.size (jAe i a c) rfl _ rfl rfl H3.rot.q.1 ?_)
    | (refine ldE (w.heap.size + 1) en rfl _ rfl rfl H3.rot.right.rot.q.1 ?_)
    | (go_at_call 164;refine (jWn H3 f3 hn i hi a c en hen had (by rw [hE3];exact HLF.out)).mono ?_;rw [HRR.out];rintro e w4 ⟨he,E4,⟨x4,H4,f4,hE4⟩,hh4⟩;rw [HR0.out] at he;subst he;clear H3)
    | (refine ldI w.heap.size (jAe i a c) rfl _ rfl rfl H4.rot.q.1 ?_)
    | (go_at_call 165;refine (put_in H4 f4 hn HL4.out i hi hs2 a c hrd had (by rw [hE4];exact hh4) hfit.out).mono ?_;rintro e w5 ⟨⟨v,rfl⟩,E5,x5,H5,f5,hE5⟩))
   go_ret
   exact ⟨rfl,E5,x5,H5.unbox.unbox,f5,hE5⟩
  ·rw [if_neg h0] at hst
   rw [hst]
   obtain ⟨r,hr⟩ : ∃ r,rr.1 = r:=⟨_,rfl⟩
   rw [hr]
   have hr58 : r = 5 ∨ r = 8:=by
    rcases rg.2.2 with h | h | h
    ·exact absurd h h0
    ·exact .inl (hr.symm.trans h)
    ·exact .inr (hr.symm.trans h)
   have HR0:=jAa hr
   clear hst rg h0 hr
   rcases hr58 with rfl | rfl
   all_goals
    go_enter Tryz.func135,Tryz.ntmps135
    go_wp2_with (first
     | (refine ldI w.heap.size (jAe i a c) rfl _ rfl rfl H0.rot.q.1 ?_)
     | (go_at_call 163;refine (HZ.out _).mono ?_;rintro e w1 ⟨rfl,hg⟩;have H1:=H0.step hg.grown;clear hg)
     | (go_at_call 162;refine (HC.out _).mono ?_;rintro e w2 ⟨he,hg⟩;rw [HCE.out] at he;subst he;have H2:=H1.step hg;clear hg H0;have c2:=jOg H2.rot.q.1)
     | (have t:=H2;clear t;refine ldE (w.heap.size + 1) en rfl _ rfl rfl H2.rot.right.rot.q.1 ?_)
     | (go_at_call 53;refine (jFq H2 f hn i.key hk3 en hen).mono ?_;rw [HHAD.out];rintro e w3 ⟨rfl,x3,H3,f3,hE3⟩;clear H2 c2)
     | (refine ldI w.heap.size (jAe i a c) rfl _ rfl rfl H3.rot.q.1 ?_)
     | (refine ldE (w.heap.size + 1) en rfl _ rfl rfl H3.rot.right.rot.q.1 ?_)
     | (go_at_call 164;refine (jWn H3 f3 hn i hi a c en hen had (by rw [hE3];exact HLF.out)).mono ?_;rw [HRR.out];rintro e w4 ⟨he,E4,⟨x4,H4,f4,hE4⟩,hh4⟩;rw [HR0.out] at he;subst he;clear H3))
    go_ret
    exact ⟨rfl,E4,x4,H4.unbox.unbox,⟨f4.small,f4.tab,f4.ents,f4.blks,jH8 f4.good (Nat.le_succ n) (HL4.out.imp Nat.succ_le_succ id)⟩,hE4⟩
end
end
end Go.Proofs.YtkfeafmpaodagaaGreatDoor
