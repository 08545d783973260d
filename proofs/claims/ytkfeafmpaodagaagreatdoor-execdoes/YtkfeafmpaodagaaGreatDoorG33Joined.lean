/- What an Update leaves, over lists alone. Conditions: none. What a Store leaves: the budget, what is in use, what was dropped. Over lists alone. Conditions: none. The document's own shard: an item, or a chunk, is written into its row; what putting does, by places. Conditions: none. The document's own shard: Update. Conditions: at most 900 stores, keys of at most 300 bytes, values of at most 3000. The document's own shard: Store. Conditions: at most 900 stores, keys of at most 300 bytes, values of at most 3000. The document's own shard: Store in place of an entry. Conditions: at most 900 stores, keys of at most 300 bytes, values of at most 3000. The document's own shard: Store of a key that it does not have. Conditions: at most 900 stores, keys of at most 300 bytes, values of at most 3000. The document's own shard: Store whole, and New. Conditions: at most 900 stores, keys of at most 300 bytes, values of at most 3000. -/
import Derived.Test.YtkfeafmpaodagaaGreatDoorShardM
import Derived.Test.YtkfeafmpaodagaaGreatDoorG32Joined
import Derived.Test.YtkfeafmpaodagaaGreatDoorG21Joined
import Derived.StillTailTactics
import Derived.Test.YtkfeafmpaodagaaGreatDoorRef11Q
namespace Go.Proofs.YtkfeafmpaodagaaGreatDoor
set_option maxHeartbeats 16000000
set_option maxRecDepth 100000
section
open Go.RowKit
theorem kJk {E : List Ent} (hr : jA9 E) {e : Ent} {i : Iv} (he : e ∈ E) (hk : e.1.key = i.key) (c : Ck) : jCp (i,c) E = E.map fun x => if x.1.key = i.key then (i,c) else x:=by
 have hkey : ∀ x : Ent,(if x.1.key = i.key then ((i,c) : Ent) else x).1.key = x.1.key:=fun x => by
  split
  ·rename_i h
   exact h.symm
  ·rfl
 refine jM5 (jF2 hr) ?_ fun x => ?_
 ·unfold jA9
  rw [List.pairwise_map]
  refine List.Pairwise.imp ?_ hr
  intro a b hab
  rw [hkey,hkey]
  exact hab
 ·rw [jKb,List.mem_map]
  constructor
  ·rintro (rfl | ⟨h1,h2⟩)
   ·exact ⟨e,he,if_pos hk⟩
   ·exact ⟨x,h1,if_neg h2⟩
  ·rintro ⟨y,hy,hx⟩
   by_cases h : y.1.key = i.key
   ·rw [if_pos h] at hx
    exact .inl hx.symm
   ·rw [if_neg h] at hx
    subst hx
    exact .inr ⟨hy,h⟩
end
section
open Go.RowKit
end
section
open Go.RowKit Go.Shelf
def jN4 : List Value → Nat → List Value → List Value
 | xs,_,[] => xs
 | xs,o,v :: vs => jN4 (xs.set o v) (o + 1) vs
theorem jOr : ∀ (new old A B : List Value),old.length = new.length → jN4 (A ++ (old ++ B)) A.length new = A ++ (new ++ B)
 | [],[],A,B,_ => rfl
 | [],_ :: _,A,B,h => by cases h
 | _ :: _,[],A,B,h => by cases h
 | v :: new,u :: old,A,B,h => by
  have h1 : (A ++ (u :: old ++ B)).set A.length v = (A ++ [v]) ++ (old ++ B):=by
   rw [List.set_append_right _ _ (Nat.le_refl _),Nat.sub_self]
   simp
  have h2:=jOr new old (A ++ [v]) B (by simpa using h)
  rw [List.length_append,List.length_singleton] at h2
  show jN4 ((A ++ (u :: old ++ B)).set A.length v) (A.length + 1) new = _
  rw [h1,h2]
  simp
theorem jUs {n0 g n cap size : Nat} {e : TypeId} : ∀ (vs : List Value) (o : Nat) (w : World) (xs : List Value),w.ownsRow n0 e size (.slice (some ⟨g,0,none⟩) n cap) n xs →
  (w.setCells g o vs).ownsRow n0 e size (.slice (some ⟨g,0,none⟩) n cap) n (jN4 xs o vs) ∧ w.grownBy (w.setCells g o vs) (some g)
 | [],o,w,xs,h => ⟨h,jDg _ _⟩
 | v :: vs,o,w,xs,h => by
  obtain ⟨h1,h2⟩:=h.stored o v
  obtain ⟨h3,h4⟩:=jUs vs (o + 1) _ _ h1
  exact ⟨h3,jAt h2 h4⟩
theorem jLp (e : Re) (l : List Re) : jAv (e :: l) = (itC e.t.it).toList ++ ([.int .i64 e.ck.1,.int .i64 e.ck.2] ++ jAv l):=by
 have h : jAv (e :: l) = e.cells ++ jAv l:=rfl
 have h2 : e.cells = (itC e.t.it).toList ++ [.int .i64 e.ck.1,.int .i64 e.ck.2]:=rfl
 rw [h,h2,List.append_assoc]
theorem jR9 {l : List Re} {m : Nat} {e : Re} (he : l[m]? = some e) (t : jFf) : jN4 (jAv l) (m * 12) (itC t.it).toList = jAv (l.set m ⟨t,e.ck⟩):=by
 obtain ⟨hm,hme⟩:=List.getElem?_eq_some_iff.1 he
 have hl : l = l.take m ++ e :: l.drop (m + 1):=by
  have h1:=(List.take_append_drop m l).symm
  rw [List.drop_eq_getElem_cons hm,hme] at h1
  exact h1
 have hset : l.set m ⟨t,e.ck⟩ = l.take m ++ ⟨t,e.ck⟩ :: l.drop (m + 1):=List.set_eq_take_append_cons_drop.trans (if_pos hm)
 have hlen : (jAv (l.take m)).length = m * 12:=by rw [jK0,List.length_take];omega
 have h2:=jOr (itC t.it).toList (itC e.t.it).toList (jAv (l.take m)) ([.int .i64 e.ck.1,.int .i64 e.ck.2] ++ jAv (l.drop (m + 1))) rfl
 rw [hlen] at h2
 rw [hset]
 have e1 : jAv l = jAv (l.take m) ++ ((itC e.t.it).toList ++ ([.int .i64 e.ck.1,.int .i64 e.ck.2] ++ jAv (l.drop (m + 1)))):=by
  conv => lhs;rw [hl]
  rw [jHx,jLp]
 have e2 : jAv (l.take m ++ ⟨t,e.ck⟩ :: l.drop (m + 1)) = jAv (l.take m) ++ ((itC t.it).toList ++ ([.int .i64 e.ck.1,.int .i64 e.ck.2] ++ jAv (l.drop (m + 1)))):=by
  rw [jHx,jLp]
 rw [e1,e2]
 exact h2
theorem jZp {l : List Re} {m : Nat} {e : Re} (he : l[m]? = some e) (c : Ck) : jN4 (jAv l) (m * 12 + 10) [.int .i64 c.1,.int .i64 c.2] = jAv (l.set m ⟨e.t,c⟩):=by
 obtain ⟨hm,hme⟩:=List.getElem?_eq_some_iff.1 he
 have hl : l = l.take m ++ e :: l.drop (m + 1):=by
  have h1:=(List.take_append_drop m l).symm
  rw [List.drop_eq_getElem_cons hm,hme] at h1
  exact h1
 have hset : l.set m ⟨e.t,c⟩ = l.take m ++ ⟨e.t,c⟩ :: l.drop (m + 1):=List.set_eq_take_append_cons_drop.trans (if_pos hm)
 have hlen : (jAv (l.take m) ++ (itC e.t.it).toList).length = m * 12 + 10:=by rw [List.length_append,jK0,List.length_take];show min m l.length * 12 + 10 = _;omega
 have h2:=jOr [.int .i64 c.1,.int .i64 c.2] [.int .i64 e.ck.1,.int .i64 e.ck.2] (jAv (l.take m) ++ (itC e.t.it).toList) (jAv (l.drop (m + 1))) rfl
 rw [hlen] at h2
 rw [hset]
 have e1 : jAv l = (jAv (l.take m) ++ (itC e.t.it).toList) ++ ([.int .i64 e.ck.1,.int .i64 e.ck.2] ++ jAv (l.drop (m + 1))):=by
  conv => lhs;rw [hl]
  rw [jHx,jLp,List.append_assoc]
 have e2 : jAv (l.take m ++ ⟨e.t,c⟩ :: l.drop (m + 1)) = (jAv (l.take m) ++ (itC e.t.it).toList) ++ ([.int .i64 c.1,.int .i64 c.2] ++ jAv (l.drop (m + 1))):=by
  rw [jHx,jLp,List.append_assoc]
 rw [e1,e2]
 exact h2
section
variable {w0 w : World} {r sd n : Nat} {P : Rp} {st : Hs} {R A : jAd}
theorem jAc.rowSet (H : jAc w0 w r sd P st (A.and R)) {N cap g : Nat} (hN : P.es.length = N) (hv : P.vL = .slice (some ⟨g,0,none⟩) N cap) {o : Nat} {vs : List Value} {es2 : List Re} (hs : jN4 (jAv P.es) o vs = jAv es2) (hl : es2.length = P.es.length)
  (ht : ∀ e ∈ es2,(∃ e' ∈ P.es,e'.t = e.t) ∨ ((∀ W,A.q W → (jIs e.t).q W) ∧ ∀ k,(jIs e.t).own k → A.own k)) :
  jAc w0 (w.setCells g o vs) r sd { P with es:=es2 } { st with ents:=es2.map Re.ent } R:=by
 have N1:=H.law.takeOut (A:=jB2 w0.heap.size 94 12 P.vL P.es.length (jAv P.es)) 1 rfl
 have hrow : w.ownsRow w0.heap.size 94 12 (.slice (some ⟨g,0,none⟩) N cap) N (jAv P.es):=by
  have:=H.row
  rw [hN,hv] at this
  exact this
 obtain ⟨h1,h2⟩:=jUs vs o w _ hrow
 rw [hs] at h1
 have N2 : Law w0 (w.setCells g o vs) ((jB2 w0.heap.size 94 12 P.vL es2.length (jAv es2)).and ((jCi ((jIv w0.heap.size r sd P st).set 1 jAd.emp)).and (A.and R))):=by
  refine N1.app0 (by rw [hl,hN,hv];exact h1) (by rw [hv];exact h2) (.inl rfl)
 have N3:=Law.putBack (l:=jIv w0.heap.size r sd P st) 1 (by show 1 < 7;decide) N2
 have N4:=(N3.takeOut (A:=jIl (P.es.map Re.t)) 2 rfl).rin.merge (C:=jIl (es2.map Re.t)) (fun h1 h2 x hx => ?_) (fun k hk => ?_)
 ·exact ⟨Law.putBack 2 (by show 2 < 7;decide) N4,rfl⟩
 ·obtain ⟨e,he,rfl⟩:=List.mem_map.1 hx
  rcases ht e he with ⟨e',he',h⟩ | h
  ·rw [← h]
   exact h1 e'.t (List.mem_map.2 ⟨e',he',rfl⟩)
  ·exact h.1 _ h2
 ·obtain ⟨x,hx,hk⟩:=hk
  obtain ⟨e,he,rfl⟩:=List.mem_map.1 hx
  rcases ht e he with ⟨e',he',h⟩ | h
  ·rw [← h] at hk
   exact .inl ⟨e'.t,List.mem_map.2 ⟨e',he',rfl⟩,hk⟩
  ·exact .inr (h.2 k hk)
end
theorem jYo {E : List Ent} (hr : jA9 E) {m : Nat} {y : Ent} (hy : E[m]? = some y) {i : Iv} (hk : y.1.key = i.key) (c : Ck) : jCp (i,c) E = E.set m (i,c):=by
 rw [kJk hr (List.mem_of_getElem? hy) hk]
 apply List.ext_getElem?
 intro j
 rw [List.getElem?_map,List.getElem?_set]
 obtain ⟨hm,_⟩:=List.getElem?_eq_some_iff.1 hy
 by_cases hj : m = j
 ·subst hj
  rw [hy,if_pos rfl,if_pos hm,Option.map_some,if_pos hk]
 ·rw [if_neg hj]
  cases hx : E[j]? with
  | none => rfl
  | some x =>
   rw [Option.map_some,if_neg]
   intro hxk
   have h1:=jLm hr (List.mem_of_getElem? hx) (List.mem_of_getElem? hy) (hxk.trans hk.symm)
   subst h1
   have h2:=(List.getElem?_inj (List.getElem?_eq_some_iff.1 hy).1 (jEq hr)).1 (hy.trans hx.symm)
   exact hj h2
theorem kJd {E : List Ent} (hr : jA9 E) {i : Iv} (hf : jA0 i.key E = none) (c : Ck) : jCp (i,c) E = E.take (jDx i.key E) ++ (i,c) :: E.drop (jDx i.key E):=by
 rw [jX9 hr,jRf hr]
 unfold jCp
 congr 2
 apply List.filter_congr
 intro x hx
 have hne:=jJh.1 hf x hx
 cases h : ltK x.1.key i.key with
 | true => rw [jI5 h];rfl
 | false =>
  cases h2 : ltK i.key x.1.key with
  | true => rfl
  | false => exact absurd (jI0 h h2) hne
end
section
open Go.RowKit Go.Shelf
theorem farC {k b : Nat} (h : k ≠ b) (W : World) (j i : Nat) (v : Value) : (W.setCell ⟨k,j,none⟩ v).cell? ⟨b,i,none⟩ = W.cell? ⟨b,i,none⟩:=World.cell?_setCell_far W _ _ v h
section
variable {w0 w : World} {r sd n : Nat} {P : Rp} {st : Hs} {R A : jAd}
theorem kK8 {e : Re} {j : Nat} {u : Value} (h : (itC (jAe e.t.iv e.t.a e.t.c)).toList[j]? = some u) : e.cells[j]? = some u:=by
 have h' : (itC e.t.it).toList[j]? = some u:=h
 unfold Re.cells
 rw [List.getElem?_append_left (List.getElem?_eq_some_iff.1 h').1]
 exact h'
theorem kDl {g : Nat} : ∀ (vs : List Value) (o : Nat) (W : World),(W.setCells g o vs).drew = W.drew.setCells g o vs
 | [],_,_ => rfl
 | v :: vs,o,W => kDl vs (o + 1) (W.setCell ⟨g,o,none⟩ v)
theorem jJo {Pr : Program} {id : Nat} {Q : Exit → Act → World → Prop} {a : Act} {w : World} {l : List Oper} (n : Nat) (hm : Pr.follows .mixedOrders = true) (hB : Region.lexTailB .any l.toArray n = true)
  (h : wpStill Pr l.toArray w.drew (fun a' => wpList Pr l.toArray Q (l.drop n) a' w.drew) (l.take n) a) : (Code.region id l.toArray true).wp Pr Q a w:=wp_region_still_tail n hm hB h
theorem jAc.there (H : jAc w0 w r sd P st R) {N cap g m : Nat} (hN : P.es.length = N) (hv : P.vL = .slice (some ⟨g,0,none⟩) N cap) {e : Re} (he : P.es[m]? = some e) (o len : Nat) (hl : o + len ≤ 12) : w.there g (m * 12 + o) len:=by
 intro j hj
 have hrow : w.ownsRow w0.heap.size 94 12 (.slice (some ⟨g,0,none⟩) N cap) N (jAv P.es):=by
  have:=H.row
  rw [hN,hv] at this
  exact this
 obtain ⟨g',eg,hcs⟩:=H.reAt hN hv he
 cases eg
 have hlt : o + j < e.cells.length:=by rw [jK5];omega
 refine ⟨?_,hrow.frozenAt _⟩
 rw [Nat.add_assoc,hcs (o + j) _ (List.getElem?_eq_getElem hlt)]
 rfl
def kC1 (w : World) (P : Rp) : Prop:=∀ e ∈ P.es,Bs w e.t.a e.t.iv.val.length e.t.c (jA6 e.t.iv.val)
theorem jAc.tales (H : jAc w0 w r sd P st R) : kC1 w P:=fun e he => by
 obtain ⟨k,hk⟩:=List.getElem?_of_mem he
 exact H.tale hk
theorem jUv {g b : Nat} (h : g ≠ b) : ∀ (vs : List Value) (o : Nat) (W : World),(W.setCells g o vs).heap[b]? = W.heap[b]?
 | [],_,_ => rfl
 | v :: vs,o,W => (jUv h vs (o + 1) _).trans (Below.heap_setCell W ⟨g,o,none⟩ v b (fun e => h e.symm))
theorem jAc.talesSet (H : jAc w0 w r sd P st R) {N cap g : Nat} (hv : P.vL = .slice (some ⟨g,0,none⟩) N cap) (o : Nat) (vs : List Value) : kC1 (w.setCells g o vs) P:=by
 have h1 : (jB2 w0.heap.size 94 12 P.vL P.es.length (jAv P.es)).own g:=by show P.vL.ownBlock = some g;rw [hv];rfl
 have hq : (jIl (P.es.map Re.t)).q (w.setCells g o vs):=(jIl (P.es.map Re.t)).on w _ (H.law.at 2 rfl) fun k hk => jUv (g:=g) (b:=k) (fun e => H.law.q.1.2 1 2 _ (jIl (P.es.map Re.t)) (by decide) rfl rfl g h1 (by rw [e];exact hk)) vs o w
 intro e he
 exact jDi.bs (hq e.t (List.mem_map.2 ⟨e,he,rfl⟩))
theorem jQm (H : jAc w0 w r sd P st R) (hg : jAo n st) (hn : n ≤ 900) (i : Iv) (hi : i.ok) (a : Option Addr) (c : Nat) (hb : ∀ W,Below w.heap.size w W → Bs W a i.val.length c (jA6 i.val)) (x : Int) (t : Hs) (hx : jJs st i = x) (ht : jBa st i = t) :
  Calls Tryz.prog 75 #[.pointer (some ⟨r,0,none⟩),.agg (itC (jAe i a c))] w fun e w' => e = .returned (.int .i64 x) ∧ (∃ P',jAc w0 w' r sd P' t R) ∧ kC1 w' P:=by
 obtain ⟨m,hm⟩ : ∃ m,jDx i.key st.ents = m:=⟨_,rfl⟩
 have H1:=H.box (.cells (itC (jAe i a c)) 75)
 have ki : (w.alloc (.cells (itC (jAe i a c)) 75)).cell? ⟨w.heap.size,0,none⟩ = some (.string i.key):=(jAk H1.boxAt).1
 have B1 : Below w.heap.size w (w.alloc (.cells (itC (jAe i a c)) 75)):=jDv (World.grownBy_alloc w _ none)
 have hiv:=hi.val
 clear H
 cases hf : jA0 i.key st.ents with
 | none =>
  obtain rfl : st = t:=by rw [← ht];unfold jBa;rw [hf]
  obtain rfl : (6 : Int) = x:=by rw [← hx];unfold jJs;rw [hf]
  have hq : jCs st i.key = false:=by unfold jCs;rw [hf];rfl
  clear ht hx hf
  go_enter Tryz.func75,Tryz.ntmps75
  go_wp2_with (go_at_call 67;refine (jCb H1 hg hn i.key _ hq m hm).mono ?_;rintro e w1 ⟨rfl,hgr⟩;have H2:=H1.step hgr;clear H1 hgr ki)
  go_ret
  exact ⟨rfl,⟨_,H2.less⟩,H2.tales⟩
 | some y =>
  have hq : jCs st i.key = true:=by unfold jCs;rw [hf];rfl
  have hp:=jFz hg.rise hf
  rw [hm] at hp
  obtain ⟨e,he,hey⟩:=H1.get hp
  obtain ⟨N,hN⟩ : ∃ N,P.es.length = N:=⟨_,rfl⟩
  have hmN : m < N:=by rw [← hN];exact (List.getElem?_eq_some_iff.1 he).1
  have hmi : (m : Int) < (N : Int):=by omega
  obtain ⟨pa,cap,hv,hc1,hc2⟩:=H1.slice hN
  unfold maxLen at hc2
  obtain ⟨g,rfl,-⟩:=H1.reAt hN hv he
  have hky : y.1.key = i.key:=(jBs hf).2
  have hel : e.t.iv.val.length = y.1.val.length:=by rw [← hey];rfl
  have HV:=jAa hv
  have HN:=jAa hN
  have HE:=jAa he
  have HQ:=jAa hq
  by_cases hl : i.val.length = y.1.val.length
  ·obtain rfl : (0 : Int) = x:=by rw [← hx];unfold jJs;rw [hf];exact (if_pos hl).symm
   have hT : t = { st with ents:=(P.es.set m ⟨⟨i,a,c⟩,e.ck⟩).map Re.ent }:=by
    rw [← ht]
    have e1 : jBa st i = ⟨jCp (i,y.2) st.ents,st.slab,st.ord,st.jd,st.drops⟩:=by unfold jBa;rw [hf];exact if_pos hl
    rw [e1,jYo hg.rise hp hky]
    have e2 : (P.es.set m ⟨⟨i,a,c⟩,e.ck⟩).map Re.ent = st.ents.set m (i,y.2):=by
     rw [List.map_set,H1.ents]
     show st.ents.set m (i,e.ck) = _
     rw [← hey]
     rfl
    rw [e2]
   replace hiv : i.val.length ≤ 3000:=by rw [hl];exact hg.val (jBs hf).1
   have HLE : Hid (e.t.iv.val.length = i.val.length):=by show _ = _;rw [hel,hl]
   have HT:=jAa hT
   clear ht hx hf hT hp hey hv hN he hq hl hel hky
   go_enter Tryz.func75,Tryz.ntmps75
   go_upto_region 4 with (go_at_call 67;refine (jCb H1 hg hn i.key _ HQ.out m hm).mono ?_;rintro e w1 ⟨rfl,hgr⟩;have H2:=H1.step hgr;have G1:=jAa (jAt (World.grownBy_alloc w (.cells (itC (jAe i a c)) 75) none) hgr);clear H1 hgr ki;have k0 : w1.cell? ⟨r,0,none⟩ = some (.slice (some ⟨g,0,none⟩) N cap):=(by rw [← HV.out];exact H2.cells.1);obtain ⟨g',eg,hcs⟩:=H2.reAt HN.out HV.out HE.out;have k1 : w1.cell? ⟨g,m * 12 + 1,none⟩ = some (.slice e.t.a e.t.iv.val.length e.t.c):=(by cases eg;exact hcs 1 _ rfl);clear hcs eg;have k2 : w1.cell? ⟨w.heap.size,1,none⟩ = some (.slice a i.val.length c):=(jAk H2.boxAt).2.1)
   rw [HLE.out] at k1
   go_quiet (fail)
   have H3:=H2.drewN nq
   have G2 : Hid (w.grownBy (w1.drewN nq) none):=jAt G1.out ⟨rfl,rfl,rfl,Nat.le_refl _,fun _ _ _ => rfl⟩
   clear H2 G1 k0 k1 k2
   generalize w1.drewN nq = w2 at *
   have k2 : (w2.alloc (.cells (itC (jAe i a c)) 75)).cell? ⟨w.heap.size,1,none⟩ = some (.slice a i.val.length c):=jDw (jAk H3.boxAt).2.1 (World.grownBy_alloc w2 _ none)
   have hbs:=hb _ (jDv (jAt G2.out (World.grownBy_alloc w2 (.cells (itC (jAe i a c)) 75) none)))
   have H4:=H3.box (.cells (itC (jAe i a c)) 75)
   go_upto_region 8 with (first
    | (refine ldI w.heap.size (jAe i a c) rfl _ rfl rfl H3.boxAt ?_)
    | (refine stI w2.heap.size (jAe i a c) rfl _ _ rfl rfl rfl (World.alloc_heap_new w2 _) ?_;rw [jAq])
    | (at_builtin;refine jC6 rfl _ _ rfl 0 _ 0 [] rfl (World.ownsRow_nil _ _ _ _) _ _ _ i.val rfl rfl hbs (by omega) (Nat.zero_le _) ?_;intro v1 w3 hown1 hg1 hat1;rw [Nat.zero_add,List.nil_append] at hown1;obtain ⟨a1,c1,rfl⟩:=jAr hown1;have N5:=((H4.law.nil (n0:=0) (e:=5) (size:=1)).app0 hown1 hg1 hat1).rot;have H5 : jAc w0 w3 r sd P st ((jA5 0 a1 c1 i.val).and ((jAn w2.heap.size (.cells (itC (jAe i a c)) 75)).and ((jAn w.heap.size (.cells (itC (jAe i a c)) 75)).and R))):=⟨N5,H4.ents⟩;clear N5 H4 hown1 hg1 hat1 H3 hbs k2;have k3 : w3.cell? ⟨w2.heap.size,1,none⟩ = some (.slice a i.val.length c):=(jAk H5.boxAt2).2.1;have f3 : w3.frozen? ⟨w2.heap.size,1,none⟩ = false:=frozen_of_row _ _ _ _ _ H5.boxAt2))
   have H6:=(H5.swap.setAt 1 (.slice a1 i.val.length c1)).swap
   rw [jSh] at H6
   clear H5 k3 f3
   generalize w3.setCell ⟨w2.heap.size,1,none⟩ (.slice a1 i.val.length c1) = w4 at *
   have H6d:=H6.drew
   have k0 : w4.drew.cell? ⟨r,0,none⟩ = some (.slice (some ⟨g,0,none⟩) N cap):=by rw [← HV.out];exact H6d.cells.1
   obtain ⟨b0,b1,b2,b3,b4,b5,b6,b7,b8,b9⟩:=jP4 H6d.boxAt2
   have hth:=H6d.there HN.out HV.out HE.out 0 10 (by decide)
   rw [Nat.add_zero] at hth
   have T8:=jAa (H6d.talesSet HV.out (m * 12) (itC (jAe i a1 c1)).toList)
   have H8:=H6d.rowSet HN.out HV.out (jR9 HE.out ⟨i,a1,c1⟩) (by rw [List.length_set]) (fun e' he' => by
    rcases List.mem_or_eq_of_mem_set he' with h | h
    ·exact .inl ⟨e',h,rfl⟩
    ·rw [h]
     exact .inr ⟨fun _ h => h,fun _ h => h⟩)
   clear H6 H6d
   refine jJo 8 (by kernel_rfl) (by kernel_rfl) ?_
   generalize w4.drew = w5 at *
   simp only [List.take_succ_cons,List.take_zero,List.drop_succ_cons,List.drop_zero]
   repeat still_step
   refine wpStill_nil ?_
   refine wpList_store_mid rfl 75 _ _ rfl g (m * 12) (itC (jAe i a1 c1)) rfl rfl hth (jCd _) (jHu _) ?_
   have e8 : (P.es.set m ⟨⟨i,a,c⟩,e.ck⟩).map Re.ent = (P.es.set m ⟨⟨i,a1,c1⟩,e.ck⟩).map Re.ent:=by rw [List.map_set,List.map_set];rfl
   have H9 : ∃ P',jAc w0 (w5.setCells g (m * 12) (itC (jAe i a1 c1)).toList) r sd P' t R:=by
    rw [HT.out,e8]
    exact ⟨_,H8.less.less⟩
   clear b0 b1 b2 b3 b4 b5 b6 b7 b8 b9 k0 hth H8 e8
   generalize w5.setCells g (m * 12) (itC (jAe i a1 c1)).toList = w6 at H9 T8 ⊢
   go_wp2
   go_ret
   exact ⟨rfl,H9,T8.out⟩
  ·obtain rfl : (1 : Int) = x:=by rw [← hx];unfold jJs;rw [hf];exact (if_neg hl).symm
   obtain rfl : st = t:=by rw [← ht];unfold jBa;rw [hf];exact (if_neg hl).symm
   have hlb : ((e.t.iv.val.length : Int) == (i.val.length : Int)) = false:=beq_eq_false_iff_ne.2 (by omega)
   clear ht hx hf hp hey hv hN he hq hl hel hky
   go_enter Tryz.func75,Tryz.ntmps75
   go_upto_region 4 with (go_at_call 67;refine (jCb H1 hg hn i.key _ HQ.out m hm).mono ?_;rintro e w1 ⟨rfl,hgr⟩;have H2:=H1.step hgr;clear H1 hgr ki;have k0 : w1.cell? ⟨r,0,none⟩ = some (.slice (some ⟨g,0,none⟩) N cap):=(by rw [← HV.out];exact H2.cells.1);obtain ⟨g',eg,hcs⟩:=H2.reAt HN.out HV.out HE.out;have k1 : w1.cell? ⟨g,m * 12 + 1,none⟩ = some (.slice e.t.a e.t.iv.val.length e.t.c):=(by cases eg;exact hcs 1 _ rfl);clear hcs eg;have k2 : w1.cell? ⟨w.heap.size,1,none⟩ = some (.slice a i.val.length c):=(jAk H2.boxAt).2.1)
   go_quiet (fail)
   go_wp2
   go_ret
   exact ⟨rfl,⟨_,(H2.drewN _).less⟩,(H2.drewN _).tales⟩
end
end
section
open Go.RowKit Go.Shelf
section
variable {w0 w : World} {r sd n : Nat} {P : Rp} {st : Hs} {R A : jAd}
theorem jO0 {e : Ending} {Q : Rp} {st : Hs} {key : ByteArray} {en : En} (h : (jAp st key en = none ∧ e = .returned (.tuple #[.agg (itC jBw),.bool false])) ∨ ∃ x : Re,x ∈ Q.es ∧ jAp st key en = some x.ent ∧ e = .returned (.tuple #[.agg (itC x.t.it),.bool true])) : ∃ v,e = .returned v:=by
 rcases h with ⟨_,h⟩ | ⟨x,_,_,h⟩
 ·exact ⟨_,h⟩
 ·exact ⟨_,h⟩
theorem kFw (H : jAc w0 w r sd P st R) (hg : jAo n st) (hn : n ≤ 900) (hbud : I64 st.slab.bud) (i : Iv) (hi : i.ok) (a : Option Addr) (c : Nat) (en : En) (x : Int) (t : Hs) (hst : jBk sd st i en = (x,t)) (hx0 : x ≠ 0) :
  Calls Tryz.prog 77 #[.pointer (some ⟨r,0,none⟩),.agg (itC (jAe i a c)),.agg (enC en)] w fun e w' => e = .returned (.int .i64 x) ∧ ∃ P',jAc w0 w' r sd P' t R:=by
 have H1:=(H.box (.cells (itC (jAe i a c)) 75)).box (.cells (enC en) 35)
 rw [World.size_alloc] at H1
 clear H
 have hk3 : (jAe i a c).key.size ≤ 140737488355328:=Nat.le_trans hi.key (by decide)
 have hv3 : (jAe i a c).vl ≤ 140737488355328:=Nat.le_trans hi.val (by decide)
 have SZ : Hid (50 + ((jAe i a c).key.size : Nat) + ((jAe i a c).vl : Nat) = jAl i):=rfl
 by_cases hsz : 2048 < jAl i
 ·have hce : jBo (jAl i) = 4:=by unfold jBo;rw [if_neg (by omega)]
  have e1 : jBk sd st i en = (4,st):=by unfold jBk;rw [if_pos hsz]
  rw [e1] at hst
  cases hst
  have HCE:=jAa hce
  clear hce e1 hsz hx0
  go_enter Tryz.func77,Tryz.ntmps77
  go_wp2_with (first
   | (refine ldI w.heap.size (jAe i a c) rfl _ rfl rfl H1.boxAt2 ?_)
   | (go_at_call 108;refine (jIj _ _ hk3 hv3).mono ?_;rintro e w1 ⟨rfl,hgr⟩;have H2:=H1.step hgr.grown;clear H1 hgr;rw [SZ.out])
   | (go_at_call 109;refine (jDt _ _).mono ?_;rintro e w2 ⟨rfl,rfl⟩;rw [HCE.out]))
  go_ret
  exact ⟨rfl,_,H2.less.less⟩
 ·have hce : jBo (jAl i) = 0:=by unfold jBo;rw [if_pos (by omega)]
  have HCE:=jAa hce
  have gl:=jCf hg i.key en
  have hll : jAp st i.key en = jA0 i.key (jAy st i.key en).ents:=jKm st i.key en
  have hbl : (jAy st i.key en).slab.bud = st.slab.bud:=jGq.2.1
  unfold jBk at hst
  rw [if_neg hsz] at hst
  obtain ⟨l1,hl1⟩ : ∃ l1,jAy st i.key en = l1:=⟨_,rfl⟩
  rw [hl1] at hst gl hll hbl
  obtain ⟨had,hh⟩ : ∃ had,jAp st i.key en = had:=⟨_,rfl⟩
  rw [hh] at hst hll
  have hrm : jAz sd i had en l1 = (x,t):=by
   by_cases h0 : (jAz sd i had en l1).1 = 0
   ·rw [if_pos h0] at hst
    have:=congrArg Prod.fst hst
    exact absurd this.symm hx0
   ·rw [if_neg h0] at hst
    exact hst
  have hx5 : I64 x:=by
   have h3:=(jKv sd i had en _ _ rfl gl).2.2
   rw [hrm] at h3
   unfold I64
   dsimp only at h3
   omega
  rw [← hbl] at hbud
  have HL1:=jAa hl1
  have HFH:=jAa hll.symm
  have HR1 : Hid ((jAz sd i had en l1).1 = x):=congrArg Prod.fst hrm
  have HR2 : Hid ((jAz sd i had en l1).2 = t):=congrArg Prod.snd hrm
  have hxb:=beq_eq_false_iff_ne.2 hx0
  clear hce hst hh hll hrm hbl hl1 hsz hx0
  go_enter Tryz.func77,Tryz.ntmps77
  go_wp2_with (first
   | (refine ldI w.heap.size (jAe i a c) rfl _ rfl rfl H1.boxAt2 ?_)
   | (go_at_call 108;refine (jIj _ _ hk3 hv3).mono ?_;rintro e w1 ⟨rfl,hgr⟩;have H2:=H1.step hgr.grown;clear H1 hgr;rw [SZ.out])
   | (go_at_call 109;refine (jDt _ _).mono ?_;rintro e w2 ⟨rfl,rfl⟩;rw [HCE.out];have ki : w1.cell? ⟨w.heap.size,0,none⟩ = some (.string i.key):=(jAk H2.boxAt2).1)
   | (refine ldE (w.heap.size + 1) en rfl _ rfl rfl H2.boxAt ?_)
   | (go_at_call 34;refine (jK7 H2 hg hn i.key en _ HL1.out).mono ?_;rintro e w3 ⟨P3,H3,hres⟩;obtain ⟨v3,rfl⟩:=jO0 hres;clear hres H2 ki)
   | (refine ldI w.heap.size (jAe i a c) rfl _ rfl rfl H3.boxAt2 ?_)
   | (refine ldE (w.heap.size + 1) en rfl _ rfl rfl H3.boxAt ?_)
   | (go_at_call 110;refine (jPa H3 gl hn hbud i hi a c en had HFH.out _ _ HR1.out HR2.out).mono ?_;rintro e w4 ⟨rfl,P4,H4⟩;clear H3))
  go_ret
  exact ⟨rfl,_,H4.less.less⟩
end
end
section
open Go.RowKit Go.Shelf
section
variable {w0 w : World} {r sd n : Nat} {P : Rp} {st : Hs} {R A : jAd}
theorem jZ6 (H : jAc w0 w r sd P st R) (hg : jAo n st) (hn : n ≤ 900) (i : Iv) (hi : i.ok) (hsz : jAl i ≤ 2048) (a : Option Addr) (c : Nat) (hb : ∀ W,Law w0 W R → Bs W a i.val.length c (jA6 i.val)) (en : En) (l1 s1 : Hs) (had : Option Ent) (hl1 : jAy st i.key en = l1) (gl : jAo n l1) (hbl : I64 l1.slab.bud) (hh : jA0 i.key l1.ents = had) (hrm : jAz sd i had en l1 = (0,s1)) (g1 : jAo n s1) (hb1 : I64 s1.slab.bud) (y : Ent) (hy : had = some y) (hf1 : jA0 i.key s1.ents = some y) (t : Hs) (ht : jJv s1 i had = t) :
  Calls Tryz.prog 77 #[.pointer (some ⟨r,0,none⟩),.agg (itC (jAe i a c)),.agg (enC en)] w fun e w' => e = .returned (.int .i64 0) ∧ ∃ P',jAc w0 w' r sd P' t R:=by
 have H1:=(H.box (.cells (itC (jAe i a c)) 75)).box (.cells (enC en) 35)
 rw [World.size_alloc] at H1
 clear H
 have hk3 : (jAe i a c).key.size ≤ 140737488355328:=Nat.le_trans hi.key (by decide)
 have hv3 : (jAe i a c).vl ≤ 140737488355328:=Nat.le_trans hi.val (by decide)
 have hiv : i.val.length ≤ 3000:=by have h1:=hsz;unfold jAl at h1;omega
 have SZ : Hid (50 + ((jAe i a c).key.size : Nat) + ((jAe i a c).vl : Nat) = jAl i):=rfl
 have HCE : Hid (jBo (jAl i) = 0):=by show jBo (jAl i) = 0;unfold jBo;rw [if_pos hsz]
 have HL1:=jAa hl1
 have HFH:=jAa hh
 have HR1 : Hid ((jAz sd i had en l1).1 = 0):=by show (jAz sd i had en l1).1 = 0;rw [hrm]
 have HR2 : Hid ((jAz sd i had en l1).2 = s1):=by show (jAz sd i had en l1).2 = s1;rw [hrm]
 obtain ⟨m,hm⟩ : ∃ m,jDx i.key s1.ents = m:=⟨_,rfl⟩
 have hp:=jFz g1.rise hf1
 rw [hm] at hp
 have HP:=jAa hp
 have HQ : Hid (jCs s1 i.key = true):=by show jCs s1 i.key = true;unfold jCs;rw [hf1];rfl
 have go:=(jLf g1 hf1).1
 have hbf : I64 (jBj s1.slab y.2).bud:=by rw [jG2];exact hb1
 have hT : t = { s1 with ents:=s1.ents.set m (i,jBp (jBj s1.slab y.2) (jAl i)),slab:=takeS (jBj s1.slab y.2) (jAl i) }:=by
  rw [← ht,hy]
  unfold jJv
  show Hs.mk (jCp (i,jBp (jBj s1.slab y.2) (jAl i)) s1.ents) (takeS (jBj s1.slab y.2) (jAl i)) s1.ord s1.jd s1.drops = _
  rw [jYo g1.rise hp (jBs hf1).2]
 have HT:=jAa hT
 obtain ⟨ck,hck⟩ : ∃ ck,jBp (jBj s1.slab y.2) (jAl i) = ck:=⟨_,rfl⟩
 have HCK:=jAa hck
 clear hp hf1 hT ht hl1 hh hrm hy hck
 go_enter Tryz.func77,Tryz.ntmps77
 go_upto_region 13 with (first
  | (refine ldI w.heap.size (jAe i a c) rfl _ rfl rfl H1.boxAt2 ?_)
  | (go_at_call 108;refine (jIj _ _ hk3 hv3).mono ?_;rintro e w1 ⟨rfl,hgr⟩;have H2:=H1.step hgr.grown;clear H1 hgr;rw [SZ.out])
  | (go_at_call 109;refine (jDt _ _).mono ?_;rintro e w2 ⟨rfl,rfl⟩;rw [HCE.out];have ki : w1.cell? ⟨w.heap.size,0,none⟩ = some (.string i.key):=(jAk H2.boxAt2).1)
  | (refine ldE (w.heap.size + 1) en rfl _ rfl rfl H2.boxAt ?_)
  | (go_at_call 34;refine (jK7 H2 hg hn i.key en _ HL1.out).mono ?_;rintro e w3 ⟨P3,H3,hres⟩;obtain ⟨v3,rfl⟩:=jO0 hres;clear hres H2 ki)
  | (refine ldI w.heap.size (jAe i a c) rfl _ rfl rfl H3.boxAt2 ?_)
  | (refine ldE (w.heap.size + 1) en rfl _ rfl rfl H3.boxAt ?_)
  | (go_at_call 110;refine (jPa H3 gl hn hbl i hi a c en had HFH.out _ _ HR1.out HR2.out).mono ?_;rintro e w4 ⟨rfl,P4,H4⟩;clear H3;have H5:=H4.box (.cells (itC (jAe i a c)) 75);have k2 : (w4.alloc (.cells (itC (jAe i a c)) 75)).cell? ⟨w.heap.size,1,none⟩ = some (.slice a i.val.length c):=jDw (jAk H4.boxAt2).2.1 (World.grownBy_alloc w4 _ none);have hbs:=hb _ H5.law.right.right.right.right)
  | (refine ldI w.heap.size (jAe i a c) rfl _ rfl rfl H4.boxAt2 ?_)
  | (refine stI w4.heap.size (jAe i a c) rfl _ _ rfl rfl rfl (World.alloc_heap_new w4 _) ?_;rw [jAq])
  | (at_builtin;refine jC6 rfl _ _ rfl 0 _ 0 [] rfl (World.ownsRow_nil _ _ _ _) _ _ _ i.val rfl rfl hbs (by omega) (Nat.zero_le _) ?_;intro v1 w5 hown1 hg1 hat1;rw [Nat.zero_add,List.nil_append] at hown1;obtain ⟨a1,c1,rfl⟩:=jAr hown1;have N5:=((H5.law.nil (n0:=0) (e:=5) (size:=1)).app0 hown1 hg1 hat1).rot;have H6 : jAc w0 w5 r sd P4 s1 ((jA5 0 a1 c1 i.val).and ((jAn w4.heap.size (.cells (itC (jAe i a c)) 75)).and ((jAn (w.heap.size + 1) (.cells (enC en) 35)).and ((jAn w.heap.size (.cells (itC (jAe i a c)) 75)).and R)))):=⟨N5,H5.ents⟩;clear N5 H5 hown1 hg1 hat1 H4 hbs k2;have k3 : w5.cell? ⟨w4.heap.size,1,none⟩ = some (.slice a i.val.length c):=(jAk H6.boxAt2).2.1;have f3 : w5.frozen? ⟨w4.heap.size,1,none⟩ = false:=frozen_of_row _ _ _ _ _ H6.boxAt2;have H7:=(H6.swap.setAt 1 (.slice a1 i.val.length c1)).swap;rw [jSh] at H7;have ki7 : (w5.setCell ⟨w4.heap.size,1,none⟩ (.slice a1 i.val.length c1)).cell? ⟨w.heap.size,0,none⟩ = some (.string i.key):=(jAk H7.less.less.boxAt2).1;clear H6)
  | (go_at_call 67;refine (jCb H7 g1 hn i.key _ HQ.out m hm).mono ?_;rintro e w7 ⟨rfl,hgr⟩;have H8:=(H7.step hgr).drew;clear H7 hgr k3 f3 ki7;obtain ⟨x,hx,hxy⟩:=H8.get HP.out;obtain ⟨N,hN⟩ : ∃ N,P4.es.length = N:=⟨_,rfl⟩;have hmN : m < N:=(by rw [← hN];exact (List.getElem?_eq_some_iff.1 hx).1);have hmi : (m : Int) < (N : Int):=(by omega);obtain ⟨pa,cap,hv,hc1,hc2⟩:=H8.slice hN;unfold maxLen at hc2;obtain ⟨g,rfl,-⟩:=H8.reAt hN hv hx;have HV:=jAa hv;have HN:=jAa hN;have HX:=jAa hx;have HXC : Hid (x.ck = y.2):=(by show x.ck = y.2;rw [← hxy];rfl);have c1':=jAa (H8.s4 hN hv hx HXC.out);have HPE:=jAa H8.ents;clear hv hN hx hxy))
 go_region_held (S4 r P4.sp g m N cap y.2) (first | exact c2 | exact c1'.out) ((go_at_call 78;refine (jVu H8.slab g1.slabG (g1.slabSmall hn) H8.law.below.size y.2.1 y.2.2).mono ?_;rintro e w8 ⟨rfl,vi,vg,h1,h2,h3⟩;have H9:=H8.slabTurn h1 h2 h3;have c2:=H9.s4 HN.out HV.out HX.out HXC.out;clear h1 h2 h3))
 have k1 : w8.cell? ⟨r,1,none⟩ = some (.pointer (some ⟨P4.sp,0,none⟩)):=H9.cells.2.1
 clear c2 c1' H8
 go_upto_region 16 with (first
  | (go_at_call 111;refine (jT9 H9.slab go.slabG (go.slabSmall hn) hbf H9.law.below.size (jAl i)).mono ?_;rintro e w9 ⟨rfl,vi2,vg2,h1,h2,h3⟩;rw [HCK.out];have H10:=(H9.slabTurn h1 h2 h3).box (.cells #[.int .i64 ck.1,.int .i64 ck.2] 92);clear h1 h2 h3 H9 k1;unfold ckV))
 generalize w9.alloc (.cells #[.int .i64 ck.1,.int .i64 ck.2] 92) = w10 at *
 have H11:=H10.swap.drew
 have k0 : w10.drew.cell? ⟨r,0,none⟩ = some (.slice (some ⟨g,0,none⟩) N cap):=by rw [← HV.out];exact H11.cells.1
 obtain ⟨b0,b1,b2,b3,b4,b5,b6,b7,b8,b9⟩:=jP4 H11.less.boxAt2
 have hth:=H11.there HN.out HV.out HX.out 0 10 (by decide)
 rw [Nat.add_zero] at hth
 have H12:=H11.rowSet HN.out HV.out (jR9 HX.out ⟨i,a1,c1⟩) (by rw [List.length_set]) (fun e' he' => by
  rcases List.mem_or_eq_of_mem_set he' with h | h
  ·exact .inl ⟨e',h,rfl⟩
  ·rw [h]
   exact .inr ⟨fun _ h => h,fun _ h => h⟩)
 clear H10 H11
 refine jJo 8 (by kernel_rfl) (by kernel_rfl) ?_
 generalize w10.drew = w11 at *
 simp only [List.take_succ_cons,List.take_zero,List.drop_succ_cons,List.drop_zero]
 repeat still_step
 refine wpStill_nil ?_
 refine wpList_store_mid rfl 75 _ _ rfl g (m * 12) (itC (jAe i a1 c1)) rfl rfl hth (jCd _) (jHu _) ?_
 clear b0 b1 b2 b3 b4 b5 b6 b7 b8 b9 k0 hth
 obtain ⟨P13,H13,hP1,hP2⟩ : ∃ P',jAc w0 (w11.setCells g (m * 12) (itC (jAe i a1 c1)).toList) r sd P' _ ((jAn w9.heap.size (.cells #[.int .i64 ck.1,.int .i64 ck.2] 92)).and _) ∧ P'.es = P4.es.set m ⟨⟨i,a1,c1⟩,x.ck⟩ ∧ P'.vL = P4.vL:=⟨_,H12,rfl,rfl⟩
 clear H12
 generalize w11.setCells g (m * 12) (itC (jAe i a1 c1)).toList = w12 at *
 have hx13 : P13.es[m]? = some ⟨⟨i,a1,c1⟩,x.ck⟩:=by rw [hP1];exact List.getElem?_set_self (by rw [HN.out];exact hmN)
 have hN13 : P13.es.length = N:=by rw [hP1,List.length_set];exact HN.out
 have hv13 : P13.vL = .slice (some ⟨g,0,none⟩) N cap:=hP2.trans HV.out
 have H14:=H13.drew
 have k0 : w12.drew.cell? ⟨r,0,none⟩ = some (.slice (some ⟨g,0,none⟩) N cap):=by rw [← hv13];exact H14.cells.1
 obtain ⟨d0,d1⟩:=jIb H14.boxAt
 have hth:=H14.there hN13 hv13 hx13 10 2 (by decide)
 have H15:=H14.rowSet hN13 hv13 (jZp hx13 ck) (by rw [List.length_set]) (fun e' he' => by
  rcases List.mem_or_eq_of_mem_set he' with h | h
  ·exact .inl ⟨e',h,rfl⟩
  ·rw [h]
   exact .inl ⟨_,List.mem_of_getElem? hx13,rfl⟩)
 have e15 : (P13.es.set m ⟨⟨i,a1,c1⟩,ck⟩).map Re.ent = s1.ents.set m (i,ck):=by
  rw [hP1,List.set_set,List.map_set,HPE.out]
  rfl
 have H16 : ∃ P',jAc w0 (w12.drew.setCells g (m * 12 + 10) (#[.int .i64 ck.1,.int .i64 ck.2] : Array Value).toList) r sd P' t R:=by
  rw [HT.out,HCK.out,← e15]
  exact ⟨_,H15.less.less.less⟩
 clear H13 H14 H15 e15 hP1 hP2 hx13 hN13 hv13
 go_upto_region 17 with fail
 refine jJo 8 (by kernel_rfl) (by kernel_rfl) ?_
 generalize w12.drew = w13 at *
 simp only [List.take_succ_cons,List.take_zero,List.drop_succ_cons,List.drop_zero]
 repeat still_step
 refine wpStill_nil ?_
 refine wpList_store_mid rfl 92 _ _ rfl g (m * 12 + 10) #[.int .i64 ck.1,.int .i64 ck.2] rfl rfl hth (by kernel_rfl) (by simp [Value.oneCell']) ?_
 clear d0 d1 k0 hth
 generalize w13.setCells g (m * 12 + 10) (#[.int .i64 ck.1,.int .i64 ck.2] : Array Value).toList = w14 at *
 go_wp2
 go_ret
 exact ⟨rfl,H16⟩
end
end
section
open Go.RowKit Go.Shelf
section
variable {w0 w : World} {r sd n : Nat} {P : Rp} {st : Hs} {R A : jAd}
theorem kD0 (w : World) (e : Re) (cs : Array Value) (hcs : cs.toList = e.cells) : jK6 (w.alloc (.cells cs 94)) (.slice (some ⟨w.heap.size,0,none⟩) 1 1) [e]:=by
 refine ⟨_,1,rfl,.inr ⟨_,0,rfl,fun j v hv => ?_⟩⟩
 rw [kE9,← hcs] at hv
 rw [Nat.zero_add,cell_of_row _ _ _ _ _ _ (World.alloc_heap_new w _)]
 simpa using hv
theorem kFz {es : List Re} {m : Nat} (i : Iv) (a : Option Addr) (c : Nat) (ck : Ck) : ∀ e ∈ es.take m ++ [⟨⟨i,a,c⟩,ck⟩] ++ es.drop m,(e ∈ es) ∨ ((∀ W,(jA5 0 a c i.val).q W → (jIs e.t).q W) ∧ ∀ k,(jIs e.t).own k → (jA5 0 a c i.val).own k):=by
 intro e he
 rcases List.mem_append.1 he with he | he
 ·rcases List.mem_append.1 he with he | he
  ·exact .inl (List.mem_of_mem_take he)
  ·obtain rfl : e = ⟨⟨i,a,c⟩,ck⟩:=by simpa using he
   exact .inr ⟨fun _ h => h,fun _ h => h⟩
 ·exact .inl (List.mem_of_mem_drop he)
theorem jZy (H : jAc w0 w r sd P st R) (hg : jAo n st) (hn : n ≤ 900) (i : Iv) (hi : i.ok) (hsz : jAl i ≤ 2048) (a : Option Addr) (c : Nat) (hb : ∀ W,Law w0 W R → Bs W a i.val.length c (jA6 i.val)) (en : En) (l1 s1 : Hs) (had : Option Ent) (hl1 : jAy st i.key en = l1) (gl : jAo n l1) (hbl : I64 l1.slab.bud) (hh : jA0 i.key l1.ents = had) (hrm : jAz sd i had en l1 = (0,s1)) (g1 : jAo n s1) (hb1 : I64 s1.slab.bud) (hy : had = none) (hf1 : jA0 i.key s1.ents = none) (t : Hs) (ht : jJv s1 i had = t) :
  Calls Tryz.prog 77 #[.pointer (some ⟨r,0,none⟩),.agg (itC (jAe i a c)),.agg (enC en)] w fun e w' => e = .returned (.int .i64 0) ∧ ∃ P',jAc w0 w' r sd P' t R:=by
 have H1:=(H.box (.cells (itC (jAe i a c)) 75)).box (.cells (enC en) 35)
 rw [World.size_alloc] at H1
 clear H
 have hk3 : (jAe i a c).key.size ≤ 140737488355328:=Nat.le_trans hi.key (by decide)
 have hv3 : (jAe i a c).vl ≤ 140737488355328:=Nat.le_trans hi.val (by decide)
 have hiv : i.val.length ≤ 3000:=by have h1:=hsz;unfold jAl at h1;omega
 have SZ : Hid (50 + ((jAe i a c).key.size : Nat) + ((jAe i a c).vl : Nat) = jAl i):=rfl
 have HCE : Hid (jBo (jAl i) = 0):=by show jBo (jAl i) = 0;unfold jBo;rw [if_pos hsz]
 have HL1:=jAa hl1
 have HFH:=jAa hh
 have HR1 : Hid ((jAz sd i had en l1).1 = 0):=by show (jAz sd i had en l1).1 = 0;rw [hrm]
 have HR2 : Hid ((jAz sd i had en l1).2 = s1):=by show (jAz sd i had en l1).2 = s1;rw [hrm]
 obtain ⟨m,hm⟩ : ∃ m,jDx i.key s1.ents = m:=⟨_,rfl⟩
 have HQ : Hid (jCs s1 i.key = false):=by show jCs s1 i.key = false;unfold jCs;rw [hf1];rfl
 obtain ⟨ck,hck⟩ : ∃ ck,jBp s1.slab (jAl i) = ck:=⟨_,rfl⟩
 have hT : t = { s1 with ents:=s1.ents.take m ++ (i,ck) :: s1.ents.drop m,slab:=takeS s1.slab (jAl i),ord:=jJ9 s1.ord i.key }:=by
  rw [← ht,hy,← hm,← kJd g1.rise hf1,← hck]
  rfl
 have HT:=jAa hT
 have HCK:=jAa hck
 have hal : (jA3 s1.ord).length ≤ 900:=by have:=g1.len;omega
 clear hf1 hT ht hl1 hh hrm hy hck
 go_enter Tryz.func77,Tryz.ntmps77
 go_wp2_with (first
  | (refine ldI w.heap.size (jAe i a c) rfl _ rfl rfl H1.boxAt2 ?_)
  | (go_at_call 108;refine (jIj _ _ hk3 hv3).mono ?_;rintro e w1 ⟨rfl,hgr⟩;have H2:=H1.step hgr.grown;clear H1 hgr;rw [SZ.out])
  | (go_at_call 109;refine (jDt _ _).mono ?_;rintro e w2 ⟨rfl,rfl⟩;rw [HCE.out];have ki : w1.cell? ⟨w.heap.size,0,none⟩ = some (.string i.key):=(jAk H2.boxAt2).1)
  | (refine ldE (w.heap.size + 1) en rfl _ rfl rfl H2.boxAt ?_)
  | (go_at_call 34;refine (jK7 H2 hg hn i.key en _ HL1.out).mono ?_;rintro e w3 ⟨P3,H3,hres⟩;obtain ⟨v3,rfl⟩:=jO0 hres;clear hres H2 ki)
  | (refine ldI w.heap.size (jAe i a c) rfl _ rfl rfl H3.boxAt2 ?_)
  | (refine ldE (w.heap.size + 1) en rfl _ rfl rfl H3.boxAt ?_)
  | (go_at_call 110;refine (jPa H3 gl hn hbl i hi a c en had HFH.out _ _ HR1.out HR2.out).mono ?_;rintro e w4 ⟨rfl,P4,H4⟩;clear H3;have H5:=H4.box (.cells (itC (jAe i a c)) 75);have k2 : (w4.alloc (.cells (itC (jAe i a c)) 75)).cell? ⟨w.heap.size,1,none⟩ = some (.slice a i.val.length c):=jDw (jAk H4.boxAt2).2.1 (World.grownBy_alloc w4 _ none);have hbs:=hb _ H5.law.right.right.right.right)
  | (refine ldI w.heap.size (jAe i a c) rfl _ rfl rfl H4.boxAt2 ?_)
  | (refine stI w4.heap.size (jAe i a c) rfl _ _ rfl rfl rfl (World.alloc_heap_new w4 _) ?_;rw [jAq])
  | (at_builtin;refine jC6 rfl _ _ rfl 0 _ 0 [] rfl (World.ownsRow_nil _ _ _ _) _ _ _ i.val rfl rfl hbs (by omega) (Nat.zero_le _) ?_;intro v1 w5 hown1 hg1 hat1;rw [Nat.zero_add,List.nil_append] at hown1;obtain ⟨a1,c1,rfl⟩:=jAr hown1;have N5:=((H5.law.nil (n0:=0) (e:=5) (size:=1)).app0 hown1 hg1 hat1).rot;have H6 : jAc w0 w5 r sd P4 s1 ((jA5 0 a1 c1 i.val).and ((jAn w4.heap.size (.cells (itC (jAe i a c)) 75)).and ((jAn (w.heap.size + 1) (.cells (enC en) 35)).and ((jAn w.heap.size (.cells (itC (jAe i a c)) 75)).and R)))):=⟨N5,H5.ents⟩;clear N5 H5 hown1 hg1 hat1 H4 hbs k2;have k3 : w5.cell? ⟨w4.heap.size,1,none⟩ = some (.slice a i.val.length c):=(jAk H6.boxAt2).2.1;have f3 : w5.frozen? ⟨w4.heap.size,1,none⟩ = false:=frozen_of_row _ _ _ _ _ H6.boxAt2;have H7:=(H6.swap.setAt 1 (.slice a1 i.val.length c1)).swap;rw [jSh] at H7;have ki7 : (w5.setCell ⟨w4.heap.size,1,none⟩ (.slice a1 i.val.length c1)).cell? ⟨w.heap.size,0,none⟩ = some (.string i.key):=(jAk H7.less.less.boxAt2).1;clear H6)
  | (go_at_call 67;refine (jCb H7 g1 hn i.key _ HQ.out m hm).mono ?_;rintro e w7 ⟨rfl,hgr⟩;have H8:=(H7.step hgr);clear H7 hgr k3 f3 ki7;obtain ⟨N,hN⟩ : ∃ N,P4.es.length = N:=⟨_,rfl⟩;have hmN : m ≤ N:=(by rw [← hN,H8.len,← hm];exact jY2 _ _);have hN9 : N ≤ 900:=(by have:=g1.len.1;have:=H8.len;omega);obtain ⟨pa,cap,hv,hc1,hc2⟩:=H8.slice hN;unfold maxLen at hc2;have HV:=jAa hv;have HN:=jAa hN;have HPE:=jAa H8.ents;obtain ⟨u1,f1,f2⟩:=jPs H8.row m (by omega);obtain ⟨u2,b1,b2⟩:=jQo H8.row m (by omega);rw [hv] at f1 b1;have F2:=jAa f2;have B2:=jAa b2;clear f2 b2 hv hN;have k1 : w7.cell? ⟨r,1,none⟩ = some (.pointer (some ⟨P4.sp,0,none⟩)):=H8.cells.2.1)
  | (go_at_call 111;refine (jT9 H8.slab g1.slabG (g1.slabSmall hn) hb1 H8.law.below.size (jAl i)).mono ?_;rintro e w9 ⟨rfl,vi2,vg2,h1,h2,h3⟩;rw [HCK.out];have H10:=((H8.slabTurn h1 h2 h3).box (.cells #[.int .i64 ck.1,.int .i64 ck.2] 92)).swap;clear h1 h2 h3 H8 k1;unfold ckV;have k0 : (w9.alloc (.cells #[.int .i64 ck.1,.int .i64 ck.2] 92)).cell? ⟨r,0,none⟩ = some (.slice pa N cap):=(by rw [← HV.out];exact H10.cells.1);have P1:=F2.out _ (jLi H10.row);have hb10:=H10.law.below.size;rw [World.size_alloc] at hb10)
  | (at_builtin;refine jEe rfl _ _ rfl w0.heap.size (.slice none 0 0) 0 [] rfl (World.ownsRow_nil _ _ _ _) u1 (P4.es.take m) rfl P1 (by rw [List.length_take];omega) (by rw [World.size_alloc];exact hb10) ?_;intro v1 w11 hown1 hgrow1 hat1;rw [Nat.zero_add,List.nil_append] at hown1;have N1:=(H10.law.nil (n0:=w0.heap.size) (e:=94) (size:=12)).app0 hown1 hgrow1 hat1;clear hgrow1 hat1 k0 P1 hb10;have H11 : jAc w0 w11 r sd _ _ _:=⟨N1.right,H10.ents⟩;clear H10;obtain ⟨d0,d1⟩:=jIb H11.boxAt2;obtain ⟨b0,b1',b2,b3,b4,b5,b6,b7,b8,b9⟩:=jP4 H11.less.boxAt2)
  | (at_builtin;refine jEe rfl _ _ rfl w0.heap.size v1 (P4.es.take m).length (jAv (P4.es.take m)) rfl (hown1.alloc _) _ [⟨⟨i,a1,c1⟩,ck⟩] rfl (kD0 w11 ⟨⟨i,a1,c1⟩,ck⟩ _ rfl) (by rw [List.length_take];simp;omega) (by rw [World.size_alloc];exact Nat.le_succ_of_le H11.law.below.size) ?_;intro v2 w12 hown2 hgrow2 hat2;have N2:=N1.app hown2 hgrow2 hat2;clear hgrow2 hat2 d0 d1 b0 b1' b2 b3 b4 b5 b6 b7 b8 b9 N1 hown1;rw [← List.length_append,← jHx] at N2 hown2;have H12 : jAc w0 w12 r sd _ _ _:=⟨N2.right,H11.ents⟩;clear H11;have k0 : w12.cell? ⟨r,0,none⟩ = some (.slice pa N cap):=(by rw [← HV.out];exact H12.cells.1);have P2:=B2.out _ (jLi H12.row);have hb12:=H12.law.below.size;have hL2 : (P4.es.take m ++ [(⟨⟨i,a1,c1⟩,ck⟩ : Re)]).length + (P4.es.drop m).length ≤ 20000:=(by have hN0:=HN.out;rw [List.length_append,List.length_take,List.length_drop,List.length_singleton];omega))
  | (at_builtin;refine jEe rfl _ _ rfl w0.heap.size v2 (P4.es.take m ++ [(⟨⟨i,a1,c1⟩,ck⟩ : Re)]).length (jAv (P4.es.take m ++ [(⟨⟨i,a1,c1⟩,ck⟩ : Re)])) rfl hown2 u2 (P4.es.drop m) rfl P2 hL2 hb12 ?_;intro v3' w13 hown3 hgrow3 hat3;have N3:=N2.app0 hown3 hgrow3 hat3;clear hgrow3 hat3 k0 P2 hb12 N2 hown2;rw [← List.length_append,← jHx] at N3 hown3;obtain ⟨q1,q2,H14⟩:=jAc.rowNew N3.rin (kFz i a1 c1 ck);clear N3 H12;obtain ⟨M,hM⟩ : ∃ M,(P4.es.take m ++ [(⟨⟨i,a1,c1⟩,ck⟩ : Re)] ++ P4.es.drop m).length = M:=⟨_,rfl⟩;rw [hM] at hown3;clear hM;obtain ⟨a3,cap3,rfl⟩:=jAr hown3;clear hown3))
 clear q1 q2
 generalize w13.setCell ⟨r,0,none⟩ (.slice a3 M cap3) = w14 at *
 have H15:=H14.less.less.drew
 have c1':=jAa H15.s2
 clear H14
 go_region_held (S2 r P4.op w.heap.size i.key) (first | exact c2 | exact c1'.out) ((go_at_call 112;refine (kMz H15.listOut hal i.key _ _ rfl rfl).mono ?_;rintro e w15 ⟨rfl,vt,vs,N6⟩;have H16:=jAc.listBack H15.ents N6;have c2 : S2 r P4.op w.heap.size i.key w15:=H16.s2;clear N6))
 clear c2 c1' H15
 go_wp2
 go_ret
 have e1 : s1.ents.take m ++ (i,ck) :: s1.ents.drop m = (P4.es.take m ++ [(⟨⟨i,a1,c1⟩,ck⟩ : Re)] ++ P4.es.drop m).map Re.ent:=by
  rw [List.map_append,List.map_append,List.map_take,List.map_drop,HPE.out,List.append_assoc]
  rfl
 have HF : ∃ P',jAc w0 w15 r sd P' t R:=by
  rw [HT.out,e1]
  exact ⟨_,H16.less.less⟩
 exact ⟨rfl,HF⟩
end
end
section
open Go.RowKit Go.Shelf
section
variable {w0 w : World} {r sd n : Nat} {P : Rp} {st : Hs} {R A : jAd}
theorem kC2 (H : jAc w0 w r sd P st R) (hg : jAo n st) (hn : n ≤ 900) (hbud : I64 st.slab.bud) (i : Iv) (hi : i.ok) (a : Option Addr) (c : Nat) (hb : ∀ W,Law w0 W R → Bs W a i.val.length c (jA6 i.val)) (en : En) (x : Int) (t : Hs) (hx : (jBk sd st i en).1 = x) (ht : (jBk sd st i en).2 = t) :
  Calls Tryz.prog 77 #[.pointer (some ⟨r,0,none⟩),.agg (itC (jAe i a c)),.agg (enC en)] w fun e w' => e = .returned (.int .i64 x) ∧ ∃ P',jAc w0 w' r sd P' t R:=by
 have hst : jBk sd st i en = (x,t):=by rw [← hx,← ht]
 by_cases hx0 : x = 0
 ·subst hx0
  have hs:=hst
  unfold jBk at hs
  by_cases hsz : 2048 < jAl i
  ·rw [if_pos hsz] at hs
   have:=congrArg Prod.fst hs
   exact absurd (show (4 : Int) = 0 from this) (by decide)
  ·rw [if_neg hsz] at hs
   have gl:=jCf hg i.key en
   have hll:=jKm st i.key en
   obtain ⟨rm,r0,_⟩:=jKv sd i (jAp st i.key en) en _ _ rfl gl
   have hbl : (jAy st i.key en).slab.bud = st.slab.bud:=jGq.2.1
   by_cases h0 : (jAz sd i (jAp st i.key en) en (jAy st i.key en)).1 = 0
   ·rw [if_pos h0] at hs
    have ht2 : jJv (jAz sd i (jAp st i.key en) en (jAy st i.key en)).2 i (jAp st i.key en) = t:=congrArg Prod.snd hs
    have hf1 : jA0 i.key (jAz sd i (jAp st i.key en) en (jAy st i.key en)).2.ents = jAp st i.key en:=rm.find.trans hll.symm
    have hb1 : I64 (jAz sd i (jAp st i.key en) en (jAy st i.key en)).2.slab.bud:=by rw [rm.bud,hbl];exact hbud
    have hr : jAz sd i (jAp st i.key en) en (jAy st i.key en) = (0,(jAz sd i (jAp st i.key en) en (jAy st i.key en)).2):=Prod.ext h0 rfl
    cases hh : jAp st i.key en with
    | none =>
     rw [hh] at ht2 hf1 hb1 hr hll
     have g1:=rm.good
     rw [hh] at g1
     exact jZy H hg hn i hi (by omega) a c hb en _ _ none rfl gl (by rw [hbl];exact hbud) hll.symm hr g1 hb1 rfl hf1 t ht2
    | some y =>
     rw [hh] at ht2 hf1 hb1 hr hll
     have g1:=rm.good
     rw [hh] at g1
     exact jZ6 H hg hn i hi (by omega) a c hb en _ _ (some y) rfl gl (by rw [hbl];exact hbud) hll.symm hr g1 hb1 y rfl hf1 t ht2
   ·rw [if_neg h0] at hs
    exact absurd (congrArg Prod.fst hs) h0
 ·exact kFw H hg hn hbud i hi a c en x t hst hx0
end
end
end Go.Proofs.YtkfeafmpaodagaaGreatDoor
