/- All of package table, and the contracts of package table, all of them. Conditions: at most 5000 texts, of at most 300 bytes each. -/
import Derived.Test.YtkfeafmpaodagaaGreatDoorG19Joined
import Derived.Deep.RegionHeld3
import Derived.Test.YtkfeafmpaodagaaGreatDoorG18Joined
namespace Go.Proofs.YtkfeafmpaodagaaGreatDoor
set_option maxHeartbeats 16000000
open Go.RowKit Go.Shelf
structure Sub (P A : jAd) : Prop where
 q : ∀ W,A.q W → P.q W
 own : ∀ k,P.own k → A.own k
theorem jBe {P R : jAd} : Sub P (P.and R):=⟨fun _ h => h.1,fun _ h => .inl h⟩
theorem jAm {P B R : jAd} (h : Sub P R) : Sub P (B.and R):=⟨fun W hq => h.q W hq.2.1,fun k hk => .inr (h.own k hk)⟩
abbrev NoF : Nat → Prop:=fun _ => False
section
variable {w W W' : World} {P A : jAd}
theorem jAb.get (H : jAb NoF w W A) (s : Sub P A) : P.q W ∧ ∀ k,P.own k → w.heap.size ≤ k ∧ k < W.heap.size:=⟨s.q W H.q,fun k hk => ⟨(H.lt k (s.own k hk)).2.elim (fun h => h.elim) id,(H.lt k (s.own k hk)).1⟩⟩
abbrev nwP (w : World) (a : Option Addr) (c : Nat) (l : List Kv) : jAd:=jB2 w.heap.size 184 2 (.slice a l.length c) l.length (enV l)
theorem jAb.aBox {k : Nat} {x : Value} {t : TypeId} (H : jAb NoF w W A) (s : Sub (jAn k (.cells #[x] t)) A) : W.cell? ⟨k,0,none⟩ = some x ∧ W.frozen? ⟨k,0,none⟩ = false ∧ w.heap.size ≤ k :=
 ⟨jPg (H.get s).1,frozen_of_row _ _ 0 _ _ (H.get s).1,((H.get s).2 k rfl).1⟩
theorem jAb.box2 (H : jAb NoF w W A) (o o' : Obj) : jAb NoF w ((W.alloc o).alloc o') ((jAn (W.heap.size + 1) o').and ((jAn W.heap.size o).and A)):=by
 have h:=(H.box o).box o'
 rwa [World.size_alloc] at h
theorem jAb.boxD (H : jAb NoF w w.drew A) (o : Obj) : jAb NoF w (w.drew.alloc o) ((jAn w.heap.size o).and A):=H.box o
theorem jAb.grown (H : jAb NoF w W A) : w.grownBy W none:=H.gr.to fun _ h => h.elim
theorem jRx {n0 n1 n size : Nat} {e : TypeId} {v : Value} {xs : List Value} (h : w.ownsRow n1 e size v n xs) (hn : n0 ≤ n1) : w.ownsRow n0 e size v n xs:=by
 refine ⟨h.1,?_⟩
 rcases h.2 with h1 | ⟨g,cap,cur,hv,h2,h3⟩
 ·exact .inl h1
 ·exact .inr ⟨g,cap,cur,hv,Nat.le_trans hn h2,h3⟩
theorem jXf {va : Value} {n : Nat} {f : Nat → Value} {L : Nat → List Kv} (hc : jJj W va n f L) (H : jAb NoF w W A) {Q : Ending → World → Prop} (k : ∀ a c W',jAb NoF w W' ((nwP w a c (jA4 n L)).and A) → Q (.returned (.slice a (jA4 n L).length c)) W') :
  Calls Tryz.prog 115 #[va] W Q:=by
 refine (kCq hc).mono ?_
 rintro e W' ⟨v,rfl,hr,hg⟩
 obtain ⟨a,c,rfl⟩:=jAr hr
 refine k a c W' (H.new hg (jRx hr H.size) fun j hj => ?_)
 have:=jCw hr hj
 exact ⟨this.1,this.2.1⟩
theorem kBv {va vX : Value} {n : Nat} {f : Nat → Value} {L : Nat → List Kv} (hX : jJj w vX n f L) (H : jAb NoF w W A) (e : va = vX) {Q : Ending → World → Prop} (k : ∀ a c W',jAb NoF w W' ((nwP w a c (jA4 n L)).and A) → Q (.returned (.slice a (jA4 n L).length c)) W') :
  Calls Tryz.prog 115 #[va] W Q:=by
 subst e
 exact jXf (hX.step H.grown) H k
def two {α : Type} (x y : α) : Nat → α:=fun i => if i = 0 then x else y
theorem jZj (x y : List Kv) : jA4 2 (two x y) = x ++ y:=by simp [jA4,two,List.range_succ]
theorem kNs {B : Nat} {a1 a2 : Option Addr} {c1 c2 : Nat} {l1 l2 : List Kv} (H : jAb NoF w W A) (s1 : Sub (nwP w a1 c1 l1) A) (s2 : Sub (nwP w a2 c2 l2) A) (sb : Sub (jAn B (.cells #[.slice a1 l1.length c1,.slice a2 l2.length c2] 181)) A) (hl : (l1 ++ l2).length ≤ 50000)
  {Q : Ending → World → Prop} (k : ∀ a c W',jAb NoF w W' ((nwP w a c (l1 ++ l2)).and A) → Q (.returned (.slice a (l1 ++ l2).length c)) W') : Calls Tryz.prog 115 #[.slice (some ⟨B,0,none⟩) 2 2] W Q:=by
 have hc : jJj W (.slice (some ⟨B,0,none⟩) 2 2) 2 (two (.slice a1 l1.length c1) (.slice a2 l2.length c2)) (two l1 l2):=by
  refine ⟨⟨rfl,.inr ⟨B,2,_,rfl,Nat.zero_le _,(H.get sb).1,Nat.le_refl _,by unfold maxLen;omega,rfl,rfl⟩⟩,fun i hi => ?_,by rw [jZj];exact hl,by omega⟩
  have : i = 0 ∨ i = 1:=by omega
  rcases this with rfl | rfl
  ·exact jRx (H.get s1).1 (Nat.zero_le _)
  ·exact jRx (H.get s2).1 (Nat.zero_le _)
 have h:=jXf hc H (Q:=Q)
 rw [jZj] at h
 exact h k
def jW1 (w W : World) (B : Nat) (l : List Kv) : Prop:=∃ a c,jAb NoF w W ((nwP w a c l).and ((jAn B (.cells #[.slice a l.length c] 181)).and jAd.emp))
theorem kG5 {a : Option Addr} {c : Nat} {l : List Kv} (H : jAb NoF w W ((nwP w a c l).and A)) : jW1 w (W.alloc (.cells #[.slice a l.length c] 181)) W.heap.size l:=by
 have H1:=(H.weak (B:=(nwP w a c l).and jAd.emp) (fun h => ⟨h.1,trivial,fun _ _ h => h⟩) fun _ hk => hk.elim .inl fun h => h.elim).box (.cells #[.slice a l.length c] 181)
 exact ⟨a,c,H1.rot⟩
theorem kNk {a : Option Addr} {c B : Nat} {x : Value} {l : List Kv} (H : jAb NoF w W ((nwP w a c l).and A)) (sb : Sub (jAn B (.cells #[x] 181)) A) : jW1 w (W.setCell ⟨B,0,none⟩ (.slice a l.length c)) B l:=by
 have H1 : jAb NoF w W ((jAn B (.cells #[x] 181)).and ((nwP w a c l).and jAd.emp)):=H.weak (fun h => ⟨sb.q W h.2.1,⟨h.1,trivial,fun _ _ h => h⟩,fun k h1 h2 => h2.elim (fun h3 => h.2.2 k h3 (sb.own k h1)) id⟩) fun k hk => hk.elim (fun h => .inr (sb.own k h)) fun h => h.elim .inl fun h => h.elim
 exact ⟨a,c,(H1.setAt 0 (.slice a l.length c)).rot⟩
end
theorem jWg {w W : World} {A : jAd} {b : Nat} {vE vB : Value} (c3 : w.cell? ⟨b,3,none⟩ = some vE) (c2 : w.cell? ⟨b,2,none⟩ = some vB) (H : jAb NoF w W A) : W.cell? ⟨b,3,none⟩ = some vE ∧ W.cell? ⟨b,2,none⟩ = some vB:=⟨jDb H.grown c3,jDb H.grown c2⟩
theorem keepS {w W : World} {A : jAd} {b k : Nat} {vE vB u : Value} (c3 : w.cell? ⟨b,3,none⟩ = some vE) (c2 : w.cell? ⟨b,2,none⟩ = some vB) (H : jAb NoF w W A) (hk : w.heap.size ≤ k) : (W.setCell ⟨k,0,none⟩ u).cell? ⟨b,3,none⟩ = some vE ∧ (W.setCell ⟨k,0,none⟩ u).cell? ⟨b,2,none⟩ = some vB:=by
 have hb : b < w.heap.size:=World.block_lt_of_cell? w _ c3
 have e : (W.setCell ⟨k,0,none⟩ u).heap[b]? = W.heap[b]?:=heap_setCell_other _ _ _ _ (show b ≠ k by omega)
 obtain ⟨h1,h2⟩:=jWg c3 c2 H
 unfold World.cell? at *
 rw [e]
 exact ⟨h1,h2⟩
set_option maxRecDepth 100000 in
theorem kJ3 {w : World} {b : Nat} {own : Nat → Prop} {st : Ts} (h : Tb0 w b own st) (hS : jCj st 5000) : Calls Tryz.prog 82 #[.pointer (some ⟨b,0,none⟩)] w fun e w' => ∃ B a c,e = .returned (.func (.func 119) #[] #[.pointer (some ⟨B,0,none⟩)]) ∧ jAb NoF w w' ((nwP w a c st.l).and ((jAn B (.cells #[.slice a st.l.length c] 181)).and jAd.emp)):=by
 have hG:=h.good
 obtain ⟨sd,vB,vE,bv,ev,B,E,L⟩:=h.tab
 have hlen:=L.fit.perm.length_eq
 rw [List.length_append] at hlen
 have h5:=hS.len
 have hN:=hS.buckets
 have hroom:=hG.room
 obtain ⟨-,-,c2,c3⟩:=jIo L.law.q.1
 have hE : jJj w vE st.left ev E:=⟨L.law.q.2.1.2.1.2.1.1,fun i hi => L.law.q.2.1.2.1.2.1.2.1.1.1 i hi,by omega,by omega⟩
 have hB : jJj w vB st.buckets bv B:=⟨L.law.q.2.1.1,fun i hi => L.law.q.2.1.2.1.1.1 i hi,by omega,by omega⟩
 have hnd : jD7 (jA4 st.left E ++ jA4 st.buckets B):=(jE7 hG.rise).perm L.fit.perm.symm
 have HPerm:=jAa L.fit.perm
 have HRise:=jAa hG.rise
 have hl50 : (jA4 st.left E ++ jA4 st.buckets B).length ≤ 50000:=by rw [List.length_append];omega
 have H:=jAa (jAb.bare w).drew
 have HE:=jAa hE
 have HB:=jAa hB
 clear h hS hG L hlen h5 hN hroom hE hB
 obtain ⟨l1,hl1⟩ : ∃ l,jA4 st.left E = l:=⟨_,rfl⟩
 obtain ⟨l2,hl2⟩ : ∃ l,jA4 st.buckets B = l:=⟨_,rfl⟩
 have C1 : Hid (∀ (va : Value) (W : World) (A : jAd),jAb NoF w W A → va = vE → ∀ Q : Ending → World → Prop,(∀ a c W',jAb NoF w W' ((nwP w a c l1).and A) → Q (.returned (.slice a l1.length c)) W') → Calls Tryz.prog 115 #[va] W Q):=fun va W A H e Q k => by
  subst hl1
  exact kBv HE.out H e k
 have C2 : Hid (∀ (va : Value) (W : World) (A : jAd),jAb NoF w W A → va = vB → ∀ Q : Ending → World → Prop,(∀ a c W',jAb NoF w W' ((nwP w a c l2).and A) → Q (.returned (.slice a l2.length c)) W') → Calls Tryz.prog 115 #[va] W Q):=fun va W A H e Q k => by
  subst hl2
  exact kBv HB.out H e k
 rw [hl1,hl2] at hnd HPerm hl50
 obtain ⟨l3,hl3⟩ : ∃ l,l1 ++ l2 = l:=⟨_,rfl⟩
 have C3 : Hid (∀ (B : Nat) (a1 a2 : Option Addr) (c1 c2 : Nat) (W : World) (A : jAd),jAb NoF w W A → Sub (nwP w a1 c1 l1) A → Sub (nwP w a2 c2 l2) A → Sub (jAn B (.cells #[.slice a1 l1.length c1,.slice a2 l2.length c2] 181)) A → ∀ Q : Ending → World → Prop,(∀ a c W',jAb NoF w W' ((nwP w a c l3).and A) → Q (.returned (.slice a l3.length c)) W') → Calls Tryz.prog 115 #[.slice (some ⟨B,0,none⟩) 2 2] W Q):=fun B a1 a2 c1 c2 W A H s1 s2 sb Q k => by
  subst hl3
  exact kNs H s1 s2 sb hl50 k
 rw [hl3] at hnd HPerm hl50
 clear HE HB hl1 hl2 hl3
 go_enter Tryz.func82,Tryz.ntmps82
 go_upto_region 1 with fail
 go_cut [3] from 3 to 15 (fun s wx => ∃ B,s = .pointer (some ⟨B,0,none⟩) ∧ Hid (jW1 w wx B l3))
 case first =>
  go_region_held3 (fun w' => w'.cell? ⟨b,3,none⟩ = some vE ∧ w'.cell? ⟨b,2,none⟩ = some vB) (first | exact jWg c3 c2 H.out | exact jWg c3 c2 (H.out.box _) | exact jWg c3 c2 (H.out.box2 _ _) | exact keepS c3 c2 H.out bl)
   ((first
    | (go_at_call 115;refine C1.out _ _ _ (by first | exact H.out | exact jAb.boxD H.out _ | exact H.out.box _ | exact H.out.box2 _ _) (by rfl) _ ?_;intro a1 c1 W1 H1;replace H:=jAa H1)
    | (go_at_call 115;refine C2.out _ _ _ (by first | exact H.out | exact H.out.box _ | exact H.out.box2 _ _) (by rfl) _ ?_;intro a2 c2' W2 H2;replace H:=jAa H2)
    | (go_at_call 115;refine C3.out _ _ _ _ _ _ _ (by first | exact H.out.box _ | exact H.out.box2 _ _) (by first | exact jBe | exact jAm jBe | exact jAm (jAm jBe) | exact jAm (jAm (jAm jBe)) | exact jAm (jAm (jAm (jAm jBe))) | exact jAm (jAm (jAm (jAm (jAm jBe))))) (by first | exact jBe | exact jAm jBe | exact jAm (jAm jBe) | exact jAm (jAm (jAm jBe)) | exact jAm (jAm (jAm (jAm jBe))) | exact jAm (jAm (jAm (jAm (jAm jBe))))) (by first | exact jBe | exact jAm jBe | exact jAm (jAm jBe) | exact jAm (jAm (jAm jBe)) | exact jAm (jAm (jAm (jAm jBe))) | exact jAm (jAm (jAm (jAm (jAm jBe))))) _ ?_;intro a3 c3' W3 H3;replace H:=jAa H3;first | (obtain ⟨bc,bf,bl⟩:=H3.aBox (x:=.slice none 0 0) (t:=181) (jAm jBe)) | (obtain ⟨bc,bf,bl⟩:=H3.aBox (x:=.slice none 0 0) (t:=181) (jAm (jAm jBe))) | (obtain ⟨bc,bf,bl⟩:=H3.aBox (x:=.slice none 0 0) (t:=181) (jAm (jAm (jAm jBe)))) | (obtain ⟨bc,bf,bl⟩:=H3.aBox (x:=.slice none 0 0) (t:=181) (jAm (jAm (jAm (jAm jBe))))) | (obtain ⟨bc,bf,bl⟩:=H3.aBox (x:=.slice none 0 0) (t:=181) (jAm (jAm (jAm (jAm (jAm jBe)))))) | skip)))
  all_goals
   go_wp2_with fail
   go_meet
   first
    | exact ⟨_,rfl,jAa (kG5 H.out)⟩
    | exact ⟨_,rfl,jAa (kNk H.out (by first | exact jBe | exact jAm jBe | exact jAm (jAm jBe) | exact jAm (jAm (jAm jBe)) | exact jAm (jAm (jAm (jAm jBe))) | exact jAm (jAm (jAm (jAm (jAm jBe))))))⟩
 case rest =>
  obtain ⟨B3,rfl,a,c,H⟩:=hcut
  have hbc:=jPg (show wc.heap[B3]? = some (.cells #[.slice a l3.length c] 181) from H.q.2.1.1)
  have HSo:=jAa (kLd H hnd hl50)
  have hlen : l3.length = st.l.length:=HPerm.out.length_eq
  have HX : Hid (∀ l',jCl l' → l'.Perm l3 → l' = st.l):=fun l' h1 h2 => jOb h1 HRise.out fun p => (h2.trans HPerm.out).mem_iff
  have HLn:=jAa hlen
  clear C1 C2 C3 H hnd hl50 hlen HPerm HRise c2 c3
  obtain ⟨n3,hn3⟩ : ∃ n,l3.length = n:=⟨_,rfl⟩
  rw [hn3] at hbc HSo HLn
  go_wp2_with (go_at_call 116;refine HSo.out.mono ?_;rintro e w5 ⟨rfl,l',r1,r2,H5⟩;replace H5:=jAa H5)
  go_ret
  have e:=HX.out l' r1 r2
  subst e
  have h:=H5.out
  rw [HLn.out] at h
  exact ⟨B3,a,c,rfl,h⟩
theorem Tb0.kept {w w' : World} {b : Nat} {own : Nat → Prop} {st : Ts} (h : Tb0 w b own st) (hs : ∀ k,own k → w'.heap[k]? = w.heap[k]?) : Tb0 w' b own st:=by
 obtain ⟨sd,vB,vE,bv,ev,B,E,rfl,h2,h3,r⟩:=h
 refine ⟨sd,vB,vE,bv,ev,B,E,rfl,(jRb b sd st.l.length vB vE st.buckets st.left bv ev B E).on w w' h2 hs,fun k hk => ?_,r⟩
 have e:=hs k hk
 have hlt:=h3 k hk
 rw [Array.getElem?_eq_getElem hlt] at e
 exact (Array.getElem?_eq_some_iff.1 e).1
theorem Tb0.lt {w : World} {b : Nat} {own : Nat → Prop} {st : Ts} (h : Tb0 w b own st) : ∀ k,own k → k < w.heap.size:=by
 obtain ⟨_,_,_,_,_,_,_,_,_,h3,_⟩:=h
 exact h3
theorem kGw : jX5 Tb0 where
 lt:=fun h => h.lt
 good:=fun h => h.good
 keep:=fun h hs => h.kept hs
 new:=fun sd hsd w => kMl sd hsd w
 put:=fun h hS s hs v _ => kKu h hS s hs v
 get:=fun h hS s hs => kLq h hS s hs
 delete:=fun h hS s hs => kI8 h hS s hs
 len:=fun h _ => (kIw h).mono fun e w' hh => ⟨hh.1,by rw [hh.2];exact h,by rw [hh.2];exact jDg _ _⟩
 all:=fun {w b own st} h hS => (kJ3 h hS).mono fun e w' ⟨B,a,c,he,H⟩ => by
  have hg:=H.grown
  have hbx:=(H.get (P:=jAn B (.cells #[.slice a st.l.length c] 181)) (jAm jBe))
  have hrw:=(H.get (P:=nwP w a c st.l) jBe)
  have hs5:=hS.len
  refine ⟨_,_,fun k => own k ∨ (k = B ∨ (Value.slice a st.l.length c).ownBlock = some k),he,h.kept fun k hk => hg.block k (h.lt k hk) (by simp),hg,fun k hk => .inl hk,fun k hk => ?_,enters_of Tryz.func119 (by kernel_rfl) rfl,fun n hn => ?_⟩
  ·rcases hk with hk | rfl | hk
   ·exact .inl hk
   ·exact .inr (hbx.2 _ rfl)
   ·exact .inr (hrw.2 k hk)
  ·exact (kMn n (by omega) (by omega) hbx.1 hrw.1).wide fun k hk => .inr hk
end Go.Proofs.YtkfeafmpaodagaaGreatDoor
