/- Slices of calls of layer 11 (a number, an item, an env) that came in, and items with the bytes of their values, opened. Conditions: none. What the statements of layer 11 share, over the contracts of package shard: each call from where a statement stands. Conditions: the contracts. The chapter's example, reckoned. Conditions: none. -/
import Derived.Test.YtkfeafmpaodagaaGreatDoorG02Joined
import Derived.Test.YtkfeafmpaodagaaGreatDoorShardM
import Derived.Test.YtkfeafmpaodagaaGreatDoorG22Joined
import Derived.Test.YtkfeafmpaodagaaGreatDoorG00Joined
namespace Go.Proofs.YtkfeafmpaodagaaGreatDoor
set_option maxHeartbeats 16000000
section
open Go.RowKit Go.ChangeShapes Go.WideShapes Go.Deep
theorem kN3 {l : List Int} (h : ∀ z ∈ l,(Lit.int .u8 z).wf = true) : ∃ u : List UInt8,l = jA6 u:=by
 refine ⟨l.map fun z => UInt8.ofNat z.toNat,?_⟩
 unfold jA6
 rw [List.map_map]
 conv => lhs;rw [← List.map_id l]
 apply List.map_congr_left
 intro z hz
 have h1:=u8_wf (h z hz)
 simp
 omega
theorem kEx {H : Type} {enc : TypeId × Value → H} {w : World} {base : Nat} {spare : Nat → Bool} {held : Bool} {n : Nat} {v : Value} {z : DataW H × List MemPlace}
  (h : DataW.trod enc Tryz.prog w base spare held n 30 [v] = some z) : ∃ (a : Option Addr) (c : Nat) (u : List UInt8),v = .slice a u.length c ∧ u.length ≤ maxLen ∧ Bs w a u.length c (jA6 u):=by
 rcases open_ints Tryz.underlying30 Tryz.underlying5 (by kernel_rfl) h with ⟨hc,_⟩ | ⟨ad,l,c,zs,hc,_,hl,hm,hz,_,hcell,hwf⟩
 ·simp at hc
  exact ⟨none,0,[],hc,Nat.zero_le _,.inl ⟨rfl,rfl,fun _ => rfl⟩⟩
 ·simp at hc
  have hzl : l ≤ zs.length:=by rw [hz];split <;> omega
  obtain ⟨u,hu⟩:=kN3 (l:=zs.take l) fun z hz => hwf z (List.mem_of_mem_take hz)
  have hul : u.length = l:=by rw [← jMf,← hu,List.length_take];omega
  refine ⟨some ad,c,u,by rw [hul];exact hc,by omega,?_⟩
  rw [← hu,hul]
  by_cases h0 : l = 0
  ·exact .inl ⟨h0,by rw [h0];rfl,fun e => by cases e⟩
  ·have c0:=hcell 0 (by omega)
   have hspot : ad.spot = none:=by simpa [Addr.add] using World.cell?_spot c0
   obtain ⟨b,off,spot⟩:=ad
   simp only at hspot
   subst hspot
   refine .inr ⟨b,off,rfl,by omega,hl,by rw [List.length_take];omega,fun z hz' => ?_,fun i hi => ?_,?_⟩
   ·exact u8_wf (hwf z (List.mem_of_mem_take hz'))
   ·have h1:=hcell i (by omega)
    rw [jPk] at h1
    rw [h1]
    congr 2
    simp [List.getD,hi]
   ·rw [jPk] at c0
    exact block_lt_of_cell c0
set_option maxRecDepth 100000 in
theorem kIp {H : Type} {enc : TypeId × Value → H} {w : World} {base : Nat} {spare : Nat → Bool} {held : Bool} {n : Nat} {y : List Value} {z : DataW H × List MemPlace} (hl : y.length = 4)
  (h : DataW.trod enc Tryz.prog w base spare held n 35 y = some z) : ∃ e : En,y = (enC e).toList ∧ e.ok:=by
 have ci : Tryz.prog.cellsOf 3 = 1:=by kernel_rfl
 have cu : Tryz.prog.cellsOf 22 = 1:=by kernel_rfl
 obtain ⟨xs,m,_,_,_,hlen,hf⟩:=DataW.trod_struct Tryz.underlying35 h
 match y,hl with
 | [v0,v1,v2,v3],_ =>
  match xs,hlen with
  | [y0,y1,y2,y3],_ =>
   have g0:=hf 0 _ rfl
   have g1:=hf 1 _ rfl
   have g2:=hf 2 _ rfl
   have g3:=hf 3 _ rfl
   simp [ci,cu] at g0 g1 g2 g3
   obtain ⟨k0,e0,_,w0⟩:=DataW.trod_int Tryz.underlying3 g0
   obtain ⟨k1,e1,_,w1⟩:=DataW.trod_int Tryz.underlying22 g1
   obtain ⟨k2,e2,_,w2⟩:=DataW.trod_int Tryz.underlying3 g2
   obtain ⟨k3,e3,_,w3⟩:=DataW.trod_int Tryz.underlying22 g3
   simp at e0 e1 e2 e3
   subst e0 e1 e2 e3
   exact ⟨⟨k0,k1,k2,k3⟩,rfl,⟨jKu w0,jNf w1,jKu w2,jNf w3⟩⟩
end
section
open Go.RowKit Go.Shelf
variable {Sh : World → Nat → (Nat → Prop) → Nat → Nat → Hs → Prop}
def shQ (L : jA7 Sh) (b : Nat) (own : Nat → Prop) (sd n : Nat) (st : Hs) : jAd:=⟨own,fun w => Sh w b own sd n st,fun _ _ h hs => L.keep h hs⟩
section
variable {w0 w w' : World} {b sd n : Nat} {own own' : Nat → Prop} {st st' : Hs} {R : jAd}
theorem Law.sh {L : jA7 Sh} (H : Law w0 w ((shQ L b own sd n st).and R)) : Sh w b own sd n st:=H.q.1
theorem Law.shTurn {L : jA7 Sh} {m : Nat} (H : Law w0 w ((shQ L b own sd n st).and R)) (h : Sh w' b own' sd m st') (hg : Gr own w w') (hgr : jBm w own own') : Law w0 w' ((shQ L b own' sd m st').and R) :=
 H.turn (A':=shQ L b own' sd m st') h (fun k hk => L.lt h k hk) hg hgr
theorem jR2 (L : jA7 Sh) (H : Law w0 w R) (sd : Nat) (bud most : Int) (h1 : sd < 18446744073709551616) (h2 : I64 bud) (h3 : I64 most) : Calls Tryz.prog 7 #[.int .u64 sd,.int .i64 bud,.int .i64 most] w fun e w' => ∃ b own,e = .returned (.pointer (some ⟨b,0,none⟩)) ∧ Law w0 w' ((shQ L b own sd 0 (jG8 bud most)).and R) :=
 (L.new sd bud most h1 h2 h3 w).mono fun _ _ ⟨b,own,g1,g2,g3,g4⟩ => ⟨b,own,g1,H.new (A:=shQ L b own sd 0 (jG8 bud most)) g4 g3 fun k hk => ⟨g2 k hk,L.lt g3 k hk⟩⟩
theorem jM9 (L : jA7 Sh) (H : Law w0 w ((shQ L b own sd n st).and R)) (hn : n ≤ 4398046511104) (hl : n ≤ 900 ∨ st.slab.bud ≤ 57600) (i : Iv) (a : Option Addr) (c : Nat) (en : En) (hi : i.ok) (hr : jG7 w own a c i.val) (hen : en.ok) (x : Int) (t : Hs) (hx : (jBk sd st i en).1 = x) (ht : (jBk sd st i en).2 = t) :
  Calls Tryz.prog 135 #[.pointer (some ⟨b,0,none⟩),.agg (itC (jAe i a c)),.agg (enC en)] w fun e w' => e = .returned (.int .i64 x) ∧ ∃ own',Law w0 w' ((shQ L b own' sd (n + 1) t).and R) :=
 (L.store H.sh hn hl i a c en hi hr hen).mono fun _ _ ⟨h1,own',h2,h3,h4⟩ => ⟨by rw [h1,hx],own',by rw [← ht];exact H.shTurn h2 h3 h4⟩
theorem jWp (L : jA7 Sh) (H : Law w0 w ((shQ L b own sd n st).and R)) (hn : n ≤ 4398046511104) (s : ByteArray) (hs : s.size ≤ 140737488351232) (t : Hs) (ht : jGt sd st s = t) :
  Calls Tryz.prog 30 #[.pointer (some ⟨b,0,none⟩),.string s] w fun e w' => (∃ v,e = .returned v) ∧ ∃ own',Law w0 w' ((shQ L b own' sd n t).and R) :=
 (L.use H.sh hn s hs).mono fun _ _ ⟨h1,own',h2,h3,h4⟩ => ⟨h1,own',by rw [← ht];exact H.shTurn h2 h3 h4⟩
theorem jIh (L : jA7 Sh) (H : Law w0 w ((shQ L b own sd n st).and R)) (hn : n ≤ 4398046511104) (i : Iv) (a : Option Addr) (c : Nat) (hi : i.ok) (hr : jG7 w own a c i.val) :
  Calls Tryz.prog 98 #[.pointer (some ⟨b,0,none⟩),.agg (itC (jAe i a c))] w fun e w' => e = .returned (.int .i64 (jJs st i)) ∧ ∃ own',Law w0 w' ((shQ L b own' sd n (jBa st i)).and R) :=
 (L.update H.sh hn i a c hi hr).mono fun _ _ ⟨h1,own',h2,h3,h4⟩ => ⟨h1,own',H.shTurn h2 h3 h4⟩
theorem jZz (L : jA7 Sh) (H : Law w0 w ((shQ L b own sd n st).and R)) (hn : n ≤ 4398046511104) (s : ByteArray) (hs : s.size ≤ 140737488351232) (q : Bool) (hq : jCs st s = q) :
  Calls Tryz.prog 104 #[.pointer (some ⟨b,0,none⟩),.string s] w fun e w' => e = .returned (.bool q) ∧ ∃ own',Law w0 w' ((shQ L b own' sd n (jBv st s)).and R) :=
 (L.remove H.sh hn s hs).mono fun _ _ ⟨h1,own',h2,h3,h4⟩ => ⟨by rw [h1,hq],own',H.shTurn h2 h3 h4⟩
theorem Law.part {A A' B : jAd} (H : Law w0 w (A.and R)) (hg : Gr A.own w w') (hq : A'.q w') (hb : B.q w') (hA : ∀ k,A'.own k → A.own k) (hB : ∀ k,B.own k → A.own k ∧ ¬ A'.own k) : Law w0 w' (A'.and (B.and R)):=by
 have hR : jMh R.own w w':=fun k hk => hg.block k (H.lt k (.inr hk)).2 fun ha => H.q.2.2 k ha hk
 refine ⟨Gr.below H.below hg fun k hk => (H.lt k (.inl hk)).1,⟨hq,⟨hb,R.on w w' H.q.2.1 hR,fun k h1 h2 => H.q.2.2 k (hB k h1).1 h2⟩,fun k h1 h2 => ?_⟩,fun k hk => ?_⟩
 ·rcases h2 with h2 | h2
  ·exact (hB k h2).2 h1
  ·exact H.q.2.2 k (hA k h1) h2
 ·have h3 : k < w.heap.size ∧ w0.heap.size ≤ k:=by
   rcases hk with hk | hk | hk
   ·exact ⟨(H.lt k (.inl (hA k hk))).2,(H.lt k (.inl (hA k hk))).1⟩
   ·exact ⟨(H.lt k (.inl (hB k hk).1)).2,(H.lt k (.inl (hB k hk).1)).1⟩
   ·exact ⟨(H.lt k (.inr hk)).2,(H.lt k (.inr hk)).1⟩
  exact ⟨h3.2,Nat.lt_of_lt_of_le h3.1 hg.size⟩
def kFe (v : Value) (l : List ByteArray) : jAd:=jB2 0 9 1 v l.length (jB6 l)
theorem kDv (L : jA7 Sh) (H : Law w0 w ((shQ L b own sd n st).and R)) (l : List ByteArray) (hl : st.drops = l) :
  Calls Tryz.prog 18 #[.pointer (some ⟨b,0,none⟩)] w fun e w' => ∃ v own',e = .returned v ∧ Law w0 w' ((shQ L b own' sd n (jGb st)).and ((kFe v l).and R)):=by
 refine (L.drops H.sh).mono ?_
 rintro e w' ⟨v,own',h1,h2,h3,h4,h5,h6⟩
 subst hl
 exact ⟨v,own',h1,H.part (A':=shQ L b own' sd n (jGb st)) (B:=kFe v st.drops) h6 h3 h2 h5 h4⟩
def kOj (st : Hs) (s : ByteArray) (en : En) (e : Ending) (P : jAd → Prop) : Prop :=
 (jAp st s en = none ∧ e = .returned (.tuple #[.agg (itC jBw),.bool false]) ∧ P jAd.emp) ∨
 ∃ y a c,jAp st s en = some y ∧ e = .returned (.tuple #[.agg (itC (jAe y.1 a c)),.bool true]) ∧ P (jA5 0 a c y.1.val)
theorem jUr (L : jA7 Sh) (H : Law w0 w ((shQ L b own sd n st).and R)) (hn : n ≤ 4398046511104) (s : ByteArray) (hs : s.size ≤ 140737488351232) (en : En) (hen : en.ok) :
  Calls Tryz.prog 29 #[.pointer (some ⟨b,0,none⟩),.string s,.agg (enC en)] w fun e w' => kOj st s en e fun B => ∃ own',Law w0 w' ((shQ L b own' sd n (jAy st s en)).and (B.and R)):=by
 refine (L.look H.sh hn s en hs hen).mono ?_
 rintro e w' ⟨own',h1,h2,h3,⟨g1,g2⟩ | ⟨y,a,c,g1,g2,g3,g4⟩⟩
 ·exact .inl ⟨g1,g2,own',(H.shTurn h1 h2 h3).in1 (fun h => ⟨trivial,h,fun _ h => h.elim⟩) fun k hk => hk.elim (fun h => h.elim) id⟩
 ·refine .inr ⟨y,a,c,g1,g2,own',?_⟩
  have H1:=H.shTurn h1 h2 h3
  refine ⟨H1.below,⟨h1,⟨jDi.base g3 (Nat.zero_le _),H1.q.2.1,fun k hk hr => ?_⟩,fun k hk hr => ?_⟩,fun k hk => ?_⟩
  ·have:=(jCw g3 hk).1
   have:=(H.lt k (.inr hr)).2
   omega
  ·rcases hr with hr | hr
   ·exact g4 k hr hk
   ·exact H1.q.2.2 k hk hr
  ·rcases hk with hk | hk | hk
   ·exact H1.lt k (.inl hk)
   ·exact ⟨Nat.le_trans H.below.size (jCw g3 hk).1,(jCw g3 hk).2.1⟩
   ·exact H1.lt k (.inr hk)
end
end
section
open Go.RowKit Go.Shelf
variable {Sh : World → Nat → (Nat → Prop) → Nat → Nat → Hs → Prop}
theorem jB9 {w w' : World} (h : Below w.heap.size w w') : w.grownBy w' none:=⟨h.os,h.tape,h.output,h.size,fun k hk _ => h.block k hk⟩
end
end Go.Proofs.YtkfeafmpaodagaaGreatDoor
