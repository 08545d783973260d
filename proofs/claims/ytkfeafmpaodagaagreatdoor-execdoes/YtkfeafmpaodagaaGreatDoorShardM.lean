/- Shards over lists alone: entries by rising keys, the slab, the list, the judge, the drops. Nothing of the program is run here. Conditions: none. -/
import Derived.Test.YtkfeafmpaodagaaGreatDoorG03Joined
import Derived.Test.YtkfeafmpaodagaaGreatDoorG04Joined
namespace Go.Proofs.YtkfeafmpaodagaaGreatDoor
set_option maxHeartbeats 16000000
open Go.RowKit
structure Iv where
 key : ByteArray
 val : List UInt8
 fl : Int
 exp : Int
 cas : Int
 sec : Int
 seq : Int
 st : Bool
 won : Bool
 seen : Bool
structure Iv.ok (v : Iv) : Prop where
 key : v.key.size ≤ 140737488351232
 val : v.val.length ≤ 140737488351232
 exp : I64 v.exp
 sec : I64 v.sec
 seq : U64 v.seq
def jAe (v : Iv) (a : Option Addr) (c : Nat) : It:=⟨v.key,a,v.val.length,c,v.fl,v.exp,v.cas,v.sec,v.seq,v.st,v.won,v.seen⟩
theorem Iv.ok.it {v : Iv} (h : v.ok) (a : Option Addr) (c : Nat) : (jAe v a c).ok :=
 ⟨Nat.le_trans h.key (by decide),Nat.le_trans h.val (by decide),h.exp,h.sec,h.seq⟩
abbrev Ent:=Iv × Ck
structure Hs where
 ents : List Ent
 slab : Sb
 ord : Sr
 jd : Js
 drops : List ByteArray
def jG8 (bud most : Int) : Hs:=⟨[],jEt bud,jIg most,jIn,[]⟩
def jA0 (k : ByteArray) (l : List Ent) : Option Ent:=l.find? fun e => decide (e.1.key = k)
def jEp (k : ByteArray) (l : List Ent) : List Ent:=l.filter fun e => decide (e.1.key ≠ k)
def jCp (e : Ent) (l : List Ent) : List Ent:=(l.filter fun x => ltK x.1.key e.1.key) ++ e :: l.filter fun x => ltK e.1.key x.1.key
def jA9 (l : List Ent) : Prop:=l.Pairwise fun a b => ltK a.1.key b.1.key = true
def jCn (i : Iv) (en : En) : Bool:=jDd i.exp i.sec i.seq en
def jAl (i : Iv) : Int:=50 + (i.key.size : Nat) + (i.val.length : Nat)
def jCs (h : Hs) (k : ByteArray) : Bool:=(jA0 k h.ents).isSome
def jOz (h : Hs) (k : ByteArray) (e : Ent) : Hs:=⟨jEp k h.ents,jBj h.slab e.2,jHf h.ord k,h.jd,h.drops⟩
def jBv (h : Hs) (k : ByteArray) : Hs:=match jA0 k h.ents with | none => h | some e => jOz h k e
def jWh (h : Hs) (k : ByteArray) : Hs:=⟨h.ents,h.slab,h.ord,h.jd,h.drops ++ [k]⟩
def jBy (h : Hs) (k : ByteArray) : Hs:=jWh (jBv h k) k
def jAp (h : Hs) (k : ByteArray) (en : En) : Option Ent:=match jA0 k h.ents with | none => none | some e => if jCn e.1 en then some e else none
def jAy (h : Hs) (k : ByteArray) (en : En) : Hs:=match jA0 k h.ents with | none => h | some e => if jCn e.1 en then h else jBy h k
def jGt (sd : Nat) (h : Hs) (k : ByteArray) : Hs:=⟨h.ents,h.slab,jE9 h.ord k,jKt sd h.jd k.data.toList,h.drops⟩
def jD0 (had : Option Ent) : Int:=match had with | none => 0 | some e => jAu e.2.1
def jNb (sd : Nat) (h : Hs) (k v : ByteArray) : Bool:=decide (jCt sd h.jd v.data.toList < jCt sd h.jd k.data.toList)
def jKo (sd : Nat) (i : Iv) (had : Option Ent) (en : En) : Nat → Hs → Int × Hs
 | 0,h => (5,h)
 | n + 1,h => if jB3 h.slab (jAl i) (jD0 had) then (0,h) else
  match jDe h.ord i.key with
  | none => (5,h)
  | some v => match jA0 v h.ents with
   | none => (5,h)
   | some e => if jCn e.1 en && had.isNone && !jNb sd h i.key v then (8,h) else jKo sd i had en n (jBy h v)
def jAz (sd : Nat) (i : Iv) (had : Option Ent) (en : En) (h : Hs) : Int × Hs:=jKo sd i had en (h.ents.length + 1) h
def jBd (h : Hs) (had : Option Ent) : Sb:=match had with | none => h.slab | some e => jBj h.slab e.2
def jJv (h : Hs) (i : Iv) (had : Option Ent) : Hs :=
 ⟨jCp (i,jBp (jBd h had) (jAl i)) h.ents,takeS (jBd h had) (jAl i),(match had with | none => jJ9 h.ord i.key | some _ => h.ord),h.jd,h.drops⟩
def jBk (sd : Nat) (h : Hs) (i : Iv) (en : En) : Int × Hs :=
 if 2048 < jAl i then (4,h) else
  if (jAz sd i (jAp h i.key en) en (jAy h i.key en)).1 = 0 then (0,jJv (jAz sd i (jAp h i.key en) en (jAy h i.key en)).2 i (jAp h i.key en)) else jAz sd i (jAp h i.key en) en (jAy h i.key en)
def jJs (h : Hs) (i : Iv) : Int:=match jA0 i.key h.ents with | none => 6 | some e => if i.val.length = e.1.val.length then 0 else 1
def jBa (h : Hs) (i : Iv) : Hs:=match jA0 i.key h.ents with | none => h | some e => if i.val.length = e.1.val.length then ⟨jCp (i,e.2) h.ents,h.slab,h.ord,h.jd,h.drops⟩ else h
def jGb (h : Hs) : Hs:=⟨h.ents,h.slab,h.ord,h.jd,[]⟩
structure jN5 (st : Sb) : Prop where
 cnt : ∀ k : Nat,st.made.getD k 0 ≤ (st.inn ++ st.gone).countP fun c => decide (c.1 = (k : Int))
 made : ∀ k : Nat,st.made.getD k 0 = 0 ∨ 64 * ((st.made.getD k 0 : Nat) : Int) ≤ st.bud
theorem kAb (bud : Int) : jN5 (jEt bud):=by
 have h : ∀ k : Nat,(jEt bud).made.getD k 0 = 0:=fun k => by
  show ([0,0,0,0,0,0] : List Nat).getD k 0 = 0
  rcases k with _ | _ | _ | _ | _ | _ | k <;> rfl
 exact ⟨fun k => by rw [h];exact Nat.zero_le _,fun k => .inl (h k)⟩
theorem kCc {st : Sb} (h : jN5 st) (c : Ck) : jN5 (jBj st c):=by
 unfold jBj
 split
 ·rename_i hc
  refine ⟨fun k => ?_,h.made⟩
  have hp : (st.inn.erase c ++ (st.gone ++ [c])).Perm (st.inn ++ st.gone):=by
   rw [← List.append_assoc]
   refine List.perm_append_comm.trans ?_
   rw [← List.append_assoc]
   exact List.Perm.append_right _ (List.perm_cons_erase hc).symm
  show st.made.getD k 0 ≤ _
  rw [hp.countP_eq]
  exact h.cnt k
 ·exact h
theorem jQ3 {k : Int} (h0 : 0 ≤ k) (h6 : k < 6) : 64 ≤ jAu k:=by
 unfold jAu
 repeat' split
 all_goals omega
theorem jQg {l : List Ck} (h : ∀ c ∈ l,0 ≤ c.1 ∧ c.1 < 6) (p : Ck → Bool) : 64 * ((l.countP p : Nat) : Int) ≤ jDp l:=by
 induction l with
 | nil => simp [jDp]
 | cons c l ih =>
  have h1:=ih fun d hd => h d (List.mem_cons_of_mem _ hd)
  have h2:=jQ3 (h c (List.mem_cons_self ..)).1 (h c (List.mem_cons_self ..)).2
  rw [jI4,List.countP_cons]
  split <;> omega
theorem kDs {st : Sb} (g : jDo st) (h : jN5 st) (size : Int) : jN5 (takeS st size):=by
 unfold takeS
 by_cases he : jB1 st size = 0
 ·rw [if_pos he]
  have hb : jBn st + jAu (jA1 size) ≤ st.bud:=by
   unfold jB1 at he
   split at he
   ·split at he
    ·assumption
    ·omega
   ·omega
  have hk:=jNd size
  have hc1:=jIu st (jA1 size)
  have hnc:=jH5 st (jA1 size)
  generalize jBh st (jA1 size) = c at *
  generalize jA1 size = k at *
  unfold jC7
  by_cases hg : c ∈ st.gone
  ·rw [if_pos hg]
   have hp : (st.inn ++ [c] ++ st.gone.erase c).Perm (st.inn ++ st.gone):=by
    rw [List.append_assoc]
    exact List.Perm.append_left _ (jNw hg)
   refine ⟨fun j => ?_,h.made⟩
   show st.made.getD j 0 ≤ _
   rw [hp.countP_eq]
   exact h.cnt j
  ·rw [if_neg hg]
   obtain ⟨hno,ec⟩:=hnc.resolve_left fun x => hg x.1
   have hcls : ∀ d ∈ st.inn,0 ≤ d.1 ∧ d.1 < 6:=fun d hd => by
    have:=g.cls d (List.mem_append_left _ hd)
    exact ⟨this.1,this.2.1⟩
   have hu:=jQg hcls fun c => decide (c.1 = (k : Int))
   have hbl:=jQ3 (k:=(k : Int)) (by omega) (by omega)
   have hg0 : (st.gone.countP fun c => decide (c.1 = (k : Int))) = 0:=List.countP_eq_zero.2 fun d hd => by simpa using hno d hd
   have hck:=h.cnt k
   rw [List.countP_append,hg0] at hck
   have eu : jBn st = jDp st.inn:=rfl
   refine ⟨fun j => ?_,fun j => ?_⟩
   ·show (st.made.set k (st.made.getD k 0 + 1)).getD j 0 ≤ (st.inn ++ [c] ++ st.gone).countP _
    rw [jMb _ _ _ _ (by rw [g.len];exact hk),List.countP_append,List.countP_append]
    have hj:=h.cnt j
    rw [List.countP_append] at hj
    split
    ·rename_i e
     subst e
     have : ([c].countP fun d => decide (d.1 = (k : Int))) = 1:=by simp [hc1]
     rw [this]
     omega
    ·omega
   ·show (st.made.set k (st.made.getD k 0 + 1)).getD j 0 = 0 ∨ 64 * (((st.made.set k (st.made.getD k 0 + 1)).getD j 0 : Nat) : Int) ≤ st.bud
    rw [jMb _ _ _ _ (by rw [g.len];exact hk)]
    split
    ·right
     omega
    ·exact h.made j
 ·rw [if_neg he]
  exact h
structure jAo (n : Nat) (h : Hs) : Prop where
 rise : jA9 h.ents
 keys : (jA3 h.ord).Perm (h.ents.map fun e => e.1.key)
 ordG : jHz h.ord
 slabG : jDo h.slab
 chunks : (h.ents.map fun e => e.2).Perm h.slab.inn
 cls : ∀ e ∈ h.ents,e.1.ok ∧ jAl e.1 ≤ 2048 ∧ e.2.1 = (jA1 (jAl e.1) : Int)
 jdG : jMw h.jd
 many : h.slab.inn.length + h.slab.gone.length ≤ h.slab.made.sum
 made : h.slab.made.sum ≤ n
 few : h.ents.length + h.drops.length ≤ n
 full : jN5 h.slab
 lim : n ≤ 901 ∨ h.slab.bud ≤ 57600
theorem jH8 {n m : Nat} {h : Hs} (g : jAo n h) (hm : n ≤ m) (hl : m ≤ 901 ∨ h.slab.bud ≤ 57600) : jAo m h:={ g with made:=Nat.le_trans g.made hm,few:=Nat.le_trans g.few hm,lim:=hl }
theorem jR8 : ∀ (l : List Nat) (x : Nat),x ∈ l → x ≤ l.sum
 | [],x,h => by cases h
 | y :: l,x,h => by
  rw [List.sum_cons]
  rcases List.mem_cons.1 h with rfl | h
  ·omega
  ·have:=jR8 l x h
   omega
theorem jAo.small {n : Nat} {h : Hs} (g : jAo n h) : Small h.slab n:=by
 have h1:=g.many
 have h2:=g.made
 exact ⟨by omega,by omega,fun m hm => Nat.le_trans (jR8 _ _ hm) h2⟩
theorem jAo.len {n : Nat} {h : Hs} (g : jAo n h) : h.ents.length ≤ n ∧ h.drops.length ≤ n ∧ (jA3 h.ord).length = h.ents.length ∧ h.ents.length = h.slab.inn.length:=by
 have h1:=g.few
 have h2:=g.keys.length_eq
 have h3:=g.chunks.length_eq
 rw [List.length_map] at h2 h3
 exact ⟨by omega,by omega,h2,h3⟩
theorem jAo.nine {n : Nat} {h : Hs} (g : jAo n h) : h.ents.length ≤ 901 ∧ Small h.slab 9000:=by
 have h1:=g.len
 rcases g.lim with hn | hb
 ·have h2:=g.small
  exact ⟨by omega,⟨by have:=h2.inn;omega,by have:=h2.gone;omega,fun m hm => by have:=h2.made m hm;omega⟩⟩
 ·have hcls : ∀ d ∈ h.slab.inn,0 ≤ d.1 ∧ d.1 < 6:=fun d hd => by
   have:=g.slabG.cls d (List.mem_append_left _ hd)
   exact ⟨this.1,this.2.1⟩
  have hu:=jQg hcls fun _ => true
  rw [show (h.slab.inn.countP fun _ => true) = h.slab.inn.length from congrFun List.countP_true _] at hu
  have hin : h.slab.inn.length ≤ 900:=by
   rcases g.slabG.bud with e | e
   ·rw [e];exact Nat.zero_le _
   ·have : jBn h.slab = jDp h.slab.inn:=rfl
    omega
  have hm : ∀ k : Nat,h.slab.made.getD k 0 ≤ 900:=fun k => by
   rcases g.full.made k with e | e <;> omega
  have hsum : h.slab.made.sum ≤ 5400 ∧ ∀ m ∈ h.slab.made,m ≤ 900:=by
   have hl:=g.slabG.len
   match h.slab.made,hl,hm with
   | [a,b,c,d,e,f],_,hm =>
    have m0:=hm 0
    have m1:=hm 1
    have m2:=hm 2
    have m3:=hm 3
    have m4:=hm 4
    have m5:=hm 5
    simp at m0 m1 m2 m3 m4 m5
    refine ⟨by simp;omega,fun m hm => ?_⟩
    simp at hm
    omega
  have:=g.many
  exact ⟨by omega,⟨by omega,by omega,fun m hm => by have:=hsum.2 m hm;omega⟩⟩
theorem jAo.val {n : Nat} {h : Hs} (g : jAo n h) {e : Ent} (he : e ∈ h.ents) : e.1.val.length ≤ 3000:=by
 have:=(g.cls e he).2.1
 unfold jAl at this
 omega
theorem kAl (bud most : Int) (n : Nat) (hn : n ≤ 901) : jAo n (jG8 bud most) :=
 ⟨List.Pairwise.nil,List.Perm.nil,jQn most,jQw bud,List.Perm.nil,fun _ h => (by cases h),kAj,by simp [jG8,jEt],by simp [jG8,jEt],by simp [jG8],kAb bud,.inl hn⟩
theorem jBs {k : ByteArray} {l : List Ent} {e : Ent} (h : jA0 k l = some e) : e ∈ l ∧ e.1.key = k:=by
 unfold jA0 at h
 exact ⟨List.mem_of_find?_eq_some h,of_decide_eq_true (List.find?_some (p:=fun e : Ent => decide (e.1.key = k)) h)⟩
theorem jJh {k : ByteArray} {l : List Ent} : jA0 k l = none ↔ ∀ e ∈ l,e.1.key ≠ k:=by
 unfold jA0
 rw [List.find?_eq_none]
 simp
theorem jLm {l : List Ent} (h : jA9 l) {a b : Ent} (ha : a ∈ l) (hb : b ∈ l) (e : a.1.key = b.1.key) : a = b:=by
 induction l with
 | nil => cases ha
 | cons x l ih =>
  have h':=List.pairwise_cons.1 h
  rcases List.mem_cons.1 ha with ea | ha
  ·rcases List.mem_cons.1 hb with eb | hb
   ·rw [ea,eb]
   ·exact absurd (ea ▸ e) (jEz (h'.1 b hb))
  ·rcases List.mem_cons.1 hb with eb | hb
   ·exact absurd (eb ▸ e.symm) (jEz (h'.1 a ha))
   ·exact ih h'.2 ha hb
theorem jMp {l : List Ent} (h : jA9 l) {e : Ent} (he : e ∈ l) : jA0 e.1.key l = some e:=by
 cases hf : jA0 e.1.key l with
 | none => exact absurd rfl (jJh.1 hf e he)
 | some x =>
  have:=jBs hf
  rw [jLm h this.1 he this.2]
theorem jGx {k : ByteArray} {l : List Ent} {e : Ent} : e ∈ jEp k l ↔ e ∈ l ∧ e.1.key ≠ k:=by simp [jEp]
theorem jKb {x e : Ent} {l : List Ent} : x ∈ jCp e l ↔ x = e ∨ (x ∈ l ∧ x.1.key ≠ e.1.key):=by
 unfold jCp
 rw [List.mem_append,List.mem_cons,List.mem_filter,List.mem_filter]
 constructor
 ·rintro (⟨h1,h2⟩ | rfl | ⟨h1,h2⟩)
  ·exact .inr ⟨h1,jEz h2⟩
  ·exact .inl rfl
  ·exact .inr ⟨h1,fun e => jEz h2 e.symm⟩
 ·rintro (rfl | ⟨h1,h2⟩)
  ·exact .inr (.inl rfl)
  ·by_cases h3 : ltK x.1.key e.1.key = true
   ·exact .inl ⟨h1,h3⟩
   ·by_cases h4 : ltK e.1.key x.1.key = true
    ·exact .inr (.inr ⟨h1,h4⟩)
    ·exact absurd (jI0 (Bool.eq_false_iff.2 h3) (Bool.eq_false_iff.2 h4)) h2
theorem jM7 {k : ByteArray} {l : List Ent} (h : jA9 l) : jA9 (jEp k l):=h.sublist List.filter_sublist
theorem jF2 {e : Ent} {l : List Ent} (h : jA9 l) : jA9 (jCp e l):=by
 unfold jCp jA9
 rw [List.pairwise_append]
 refine ⟨h.sublist List.filter_sublist,List.pairwise_cons.2 ⟨fun a ha => (List.mem_filter.1 ha).2,h.sublist List.filter_sublist⟩,fun a ha b hb => ?_⟩
 have h1:=(List.mem_filter.1 ha).2
 rcases List.mem_cons.1 hb with rfl | hb
 ·exact h1
 ·exact jHv h1 (List.mem_filter.1 hb).2
theorem jEq {l : List Ent} (h : jA9 l) : l.Nodup:=List.Pairwise.imp (fun {a b} hab (e : a = b) => jEz hab (by rw [e])) h
theorem jM5 {l m : List Ent} (hl : jA9 l) (hm : jA9 m) (h : ∀ e,e ∈ l ↔ e ∈ m) : l = m:=by
 have hp : l.Perm m:=(List.perm_ext_iff_of_nodup (jEq hl) (jEq hm)).2 h
 exact hp.eq_of_pairwise (fun a b _ _ h1 h2 => by have:=jI5 h1;rw [h2] at this;cases this) hl hm
theorem jNt {l : List Ent} (h : jA9 l) {e : Ent} (he : e ∈ l) : l.Perm (e :: jEp e.1.key l):=by
 refine (List.perm_ext_iff_of_nodup (jEq h) (List.nodup_cons.2 ⟨fun hm => (jGx.1 hm).2 rfl,(List.filter_sublist).nodup (jEq h)⟩)).2 fun x => ?_
 rw [List.mem_cons,jGx]
 constructor
 ·intro hx
  by_cases hk : x.1.key = e.1.key
  ·exact .inl (jLm h hx he hk)
  ·exact .inr ⟨hx,hk⟩
 ·rintro (rfl | ⟨hx,_⟩)
  ·exact he
  ·exact hx
theorem jY6 {l : List Ent} (h : jA9 l) (e : Ent) : (jCp e l).Perm (e :: jEp e.1.key l):=by
 refine (List.perm_ext_iff_of_nodup (jEq (jF2 h)) (List.nodup_cons.2 ⟨fun hm => (jGx.1 hm).2 rfl,(List.filter_sublist).nodup (jEq h)⟩)).2 fun x => ?_
 rw [List.mem_cons,jGx,jKb]
theorem jWw {l : List Ent} {k : ByteArray} (h : jA0 k l = none) : jEp k l = l:=by
 unfold jEp
 rw [List.filter_eq_self]
 intro e he
 exact decide_eq_true (jJh.1 h e he)
theorem kLb {l : List Ent} (h : jA9 l) (e : Ent) : jA0 e.1.key (jCp e l) = some e:=jMp (jF2 h) (jKb.2 (.inl rfl))
theorem jTv {l : List Ent} (h : jA9 l) {k v : ByteArray} (hk : k ≠ v) : jA0 k (jEp v l) = jA0 k l:=by
 cases hf : jA0 k l with
 | none =>
  rw [jJh] at hf ⊢
  exact fun x hx => hf x (jGx.1 hx).1
 | some x =>
  obtain ⟨h1,rfl⟩:=jBs hf
  exact jMp (jM7 h) (jGx.2 ⟨h1,hk⟩)
theorem jWa {l : List Ent} {k : ByteArray} : jA0 k (jEp k l) = none:=jJh.2 fun _ hx => (jGx.1 hx).2
theorem jRh (k : ByteArray) (l : List Ent) : (jEp k l).map (fun e => e.1.key) = jAx (l.map fun e => e.1.key) k:=by
 unfold jEp jAx
 rw [List.filter_map]
 rfl
theorem jLf {n : Nat} {h : Hs} (g : jAo n h) {k : ByteArray} {e : Ent} (hf : jA0 k h.ents = some e) : jAo n (jOz h k e) ∧ (jOz h k e).ents.length + 1 = h.ents.length:=by
 obtain ⟨he,rfl⟩:=jBs hf
 have hp:=jNt g.rise he
 have hl:=hp.length_eq
 rw [List.length_cons] at hl
 have hin : e.2 ∈ h.slab.inn:=g.chunks.mem_iff.1 (List.mem_map.2 ⟨e,he,rfl⟩)
 have hfs : jBj h.slab e.2 = ⟨h.slab.bud,h.slab.inn.erase e.2,h.slab.gone ++ [e.2],h.slab.made⟩:=if_pos hin
 have hil:=List.length_erase_of_mem hin
 have hpos : 0 < h.slab.inn.length:=List.length_pos_of_mem hin
 refine ⟨⟨jM7 g.rise,?_,jWv g.ordG _,jVs g.slabG _,?_,fun x hx => g.cls x (jGx.1 hx).1,g.jdG,?_,?_,?_,kCc g.full _,?_⟩,by show (jEp e.1.key h.ents).length + 1 = _;omega⟩
 ·show (jA3 (jHf h.ord e.1.key)).Perm ((jEp e.1.key h.ents).map _)
  rw [kBh,jRh]
  exact g.keys.filter _
 ·show ((jEp e.1.key h.ents).map _).Perm (jBj h.slab e.2).inn
  rw [hfs]
  have h1 : (e.2 :: (jEp e.1.key h.ents).map fun e => e.2).Perm h.slab.inn:=((hp.map fun e : Ent => e.2).symm.trans g.chunks)
  exact (h1.trans (List.perm_cons_erase hin)).cons_inv
 ·show (jBj h.slab e.2).inn.length + (jBj h.slab e.2).gone.length ≤ (jBj h.slab e.2).made.sum
  rw [hfs]
  have:=g.many
  simp only [List.length_append,List.length_cons,List.length_nil]
  omega
 ·show (jBj h.slab e.2).made.sum ≤ n
  rw [hfs]
  exact g.made
 ·show (jEp e.1.key h.ents).length + h.drops.length ≤ n
  have:=g.few
  omega
 ·show n ≤ 901 ∨ (jBj h.slab e.2).bud ≤ 57600
  rw [hfs]
  exact g.lim
theorem jX8 {n : Nat} {h : Hs} (g : jAo n h) (k : ByteArray) : jAo n (jBv h k):=by
 unfold jBv
 split
 ·exact g
 ·rename_i e hf
  exact (jLf g hf).1
theorem jG3 {h : Hs} {k : ByteArray} {e : Ent} (hf : jA0 k h.ents = some e) : jBy h k = jWh (jOz h k e) k:=by
 unfold jBy jBv
 rw [hf]
theorem jGn {n : Nat} {h : Hs} (g : jAo n h) {k : ByteArray} {e : Ent} (hf : jA0 k h.ents = some e) : jAo n (jBy h k) ∧ (jBy h k).ents.length + 1 = h.ents.length ∧ (jBy h k).drops = h.drops ++ [k]:=by
 rw [jG3 hf]
 have g1:=jLf g hf
 have hfew:=g.few
 refine ⟨{ g1.1 with few:=?_ },g1.2,rfl⟩
 have:=g1.2
 show (jOz h k e).ents.length + (h.drops ++ [k]).length ≤ n
 rw [List.length_append,List.length_singleton]
 omega
theorem jCf {n : Nat} {h : Hs} (g : jAo n h) (k : ByteArray) (en : En) : jAo n (jAy h k en):=by
 unfold jAy
 split
 ·exact g
 ·rename_i e hf
  split
  ·exact g
  ·exact (jGn g hf).1
theorem jZ9 {n : Nat} {h : Hs} (g : jAo n h) : jAo n (jGb h):={ g with few:=by show h.ents.length + 0 ≤ n;have:=g.few;omega }
theorem jD3 {n : Nat} {h : Hs} (g : jAo n h) (sd : Nat) (k : ByteArray) : jAo n (jGt sd h k):=by
 refine { g with keys:=?_,ordG:=jYd g.ordG k,jdG:=kB5 g.jdG _ _ }
 show (jA3 (jE9 h.ord k)).Perm _
 by_cases hk : k ∈ jA3 h.ord
 ·rw [kAz hk]
  have h1 : (k :: jAx (jA3 h.ord) k).Perm (jA3 h.ord):=by
   refine (List.perm_ext_iff_of_nodup (List.nodup_cons.2 ⟨fun hm => (jM6.1 hm).2 rfl,(jKj _ _).nodup g.ordG.nodup⟩) g.ordG.nodup).2 fun x => ?_
   rw [List.mem_cons,jM6]
   constructor
   ·rintro (rfl | ⟨hx,_⟩)
    ·exact hk
    ·exact hx
   ·intro hx
    by_cases e : x = k
    ·exact .inl e
    ·exact .inr ⟨hx,e⟩
  exact (List.perm_append_singleton k _).trans (h1.trans g.keys)
 ·rw [jTu hk]
  exact g.keys
theorem jKm (h : Hs) (k : ByteArray) (en : En) : jAp h k en = jA0 k (jAy h k en).ents:=by
 unfold jAp jAy
 cases hf : jA0 k h.ents with
 | none => exact hf.symm
 | some e =>
  dsimp only
  by_cases hl : jCn e.1 en = true
  ·rw [if_pos hl,if_pos hl,hf]
  ·rw [if_neg hl,if_neg hl,jG3 hf]
   exact jWa.symm
theorem jYq {st : Sr} {k v : ByteArray} (h : jDe st k = some v) : v ∈ jA3 st ∧ v ≠ k:=by
 unfold jDe at h
 exact ⟨List.mem_of_find?_eq_some h,of_decide_eq_true (List.find?_some (p:=fun x : ByteArray => decide (x ≠ k)) h)⟩
theorem jU8 {n : Nat} {h : Hs} (g : jAo n h) {v : ByteArray} (hv : v ∈ jA3 h.ord) : ∃ e,jA0 v h.ents = some e:=by
 obtain ⟨e,he,rfl⟩:=List.mem_map.1 (g.keys.mem_iff.1 hv)
 exact ⟨e,jMp g.rise he⟩
theorem jH1 {n : Nat} {h : Hs} (g : jAo n h) (sd : Nat) (i : Iv) (had : Option Ent) (en : En) :
  (jB3 h.slab (jAl i) (jD0 had) = true ∧ jAz sd i had en h = (0,h)) ∨
  (jB3 h.slab (jAl i) (jD0 had) = false ∧ ((jDe h.ord i.key = none ∧ jAz sd i had en h = (5,h)) ∨
   ∃ v e,jDe h.ord i.key = some v ∧ jA0 v h.ents = some e ∧ v ≠ i.key ∧ v.size ≤ 140737488351232 ∧
    ((jCn e.1 en = true ∧ had = none ∧ jNb sd h i.key v = false ∧ jAz sd i had en h = (8,h)) ∨
     ((jCn e.1 en = false ∨ had ≠ none ∨ jNb sd h i.key v = true) ∧ jAz sd i had en h = jAz sd i had en (jBy h v))))):=by
 have hR : jAz sd i had en h = jKo sd i had en (h.ents.length + 1) h:=rfl
 rw [hR]
 cases hf : jB3 h.slab (jAl i) (jD0 had) with
 | true => exact .inl ⟨rfl,by unfold jKo;rw [hf];rfl⟩
 | false =>
  refine .inr ⟨rfl,?_⟩
  cases hv : jDe h.ord i.key with
  | none => exact .inl ⟨rfl,by unfold jKo;rw [hf,hv];rfl⟩
  | some v =>
   obtain ⟨hm,hne⟩:=jYq hv
   obtain ⟨e,he⟩:=jU8 g hm
   have hsz : v.size ≤ 140737488351232:=by
    have:=jBs he
    rw [← this.2]
    exact (g.cls e this.1).1.key
   refine .inr ⟨v,e,rfl,he,hne,hsz,?_⟩
   have hstep : jKo sd i had en (h.ents.length + 1) h = if jCn e.1 en && had.isNone && !jNb sd h i.key v then (8,h) else jKo sd i had en h.ents.length (jBy h v):=by
    conv => lhs;unfold jKo
    rw [hf,hv]
    dsimp only
    rw [he]
    rfl
   have hlen:=(jGn g he).2.1
   rw [hstep]
   cases hc : (jCn e.1 en && had.isNone && !jNb sd h i.key v) with
   | true =>
    simp only [Bool.and_eq_true,Bool.not_eq_true',Option.isNone_iff_eq_none] at hc
    exact .inl ⟨hc.1.1,hc.1.2,hc.2,rfl⟩
   | false =>
    refine .inr ⟨?_,?_⟩
    ·cases h1 : jCn e.1 en with
     | false => exact .inl rfl
     | true =>
      cases h2 : had with
      | some x => exact .inr (.inl (by simp))
      | none =>
       rw [h1,h2] at hc
       simp at hc
       exact .inr (.inr hc)
    ·show jKo sd i had en h.ents.length (jBy h v) = jKo sd i had en ((jBy h v).ents.length + 1) (jBy h v)
     rw [hlen]
theorem jJg {n : Nat} {h : Hs} (g : jAo n h) {k v : ByteArray} {e : Ent} (hf : jA0 v h.ents = some e) (hk : k ≠ v) : jA0 k (jBy h v).ents = jA0 k h.ents:=by
 rw [jG3 hf]
 exact jTv g.rise hk
structure kEb (n : Nat) (i : Iv) (had : Option Ent) (h h' : Hs) : Prop where
 good : jAo n h'
 find : jA0 i.key h'.ents = jA0 i.key h.ents
 jd : h'.jd = h.jd
 bud : h'.slab.bud = h.slab.bud
 most : h'.ord.most = h.ord.most
 drops : ∃ l,h'.drops = h.drops ++ l ∧ (∀ k ∈ l,k ≠ i.key)
theorem jG2 (st : Sb) (c : Ck) : (jBj st c).bud = st.bud:=by unfold jBj;split <;> rfl
theorem jYp (st : Sb) (s : Int) : (takeS st s).bud = st.bud:=by
 unfold takeS
 split
 ·unfold jC7
  split <;> rfl
 ·rfl
theorem jKv {n : Nat} (sd : Nat) (i : Iv) (had : Option Ent) (en : En) : ∀ (m : Nat) (h : Hs),h.ents.length = m → jAo n h → kEb n i had h (jAz sd i had en h).2 ∧ ((jAz sd i had en h).1 = 0 → jB3 (jAz sd i had en h).2.slab (jAl i) (jD0 had) = true) ∧ ((jAz sd i had en h).1 = 0 ∨ (jAz sd i had en h).1 = 5 ∨ (jAz sd i had en h).1 = 8):=by
 intro m
 induction m with
 | zero =>
  intro h hm g
  have hid : kEb n i had h h:=⟨g,rfl,rfl,rfl,rfl,[],by simp,fun _ hk => (by cases hk)⟩
  rcases jH1 g sd i had en with ⟨hf,hr⟩ | ⟨hf,⟨hv,hr⟩ | ⟨v,e,hv,he,hne,hsz,hc⟩⟩
  ·rw [hr]
   exact ⟨hid,fun _ => hf,.inl rfl⟩
  ·rw [hr]
   exact ⟨hid,fun h0 => absurd (show (5 : Int) = 0 from h0) (by decide),.inr (.inl rfl)⟩
  ·have:=(jGn g he).2.1
   omega
 | succ m ih =>
  intro h hm g
  have hid : kEb n i had h h:=⟨g,rfl,rfl,rfl,rfl,[],by simp,fun _ hk => (by cases hk)⟩
  rcases jH1 g sd i had en with ⟨hf,hr⟩ | ⟨hf,⟨hv,hr⟩ | ⟨v,e,hv,he,hne,hsz,⟨_,_,_,hr⟩ | ⟨_,hr⟩⟩⟩
  ·rw [hr]
   exact ⟨hid,fun _ => hf,.inl rfl⟩
  ·rw [hr]
   exact ⟨hid,fun h0 => absurd (show (5 : Int) = 0 from h0) (by decide),.inr (.inl rfl)⟩
  ·rw [hr]
   exact ⟨hid,fun h0 => absurd (show (8 : Int) = 0 from h0) (by decide),.inr (.inr rfl)⟩
  ·obtain ⟨g1,hl,hd⟩:=jGn g he
   have hp:=ih (jBy h v) (by omega) g1
   rw [← hr] at hp
   refine ⟨?_,hp.2⟩
   obtain ⟨k1,k2,k3,k4,k5,l,k6,k7⟩:=hp.1
   have e1:=jG3 he
   refine ⟨k1,k2.trans (jJg g he (fun e => hne e.symm)),k3.trans (by rw [e1];rfl),k4.trans (by rw [e1];exact jG2 _ _),k5.trans (by rw [e1];rfl),v :: l,?_,?_⟩
   ·rw [k6,hd,List.append_assoc,List.singleton_append]
   ·intro k hk
    rcases List.mem_cons.1 hk with rfl | hk
    ·exact hne
    ·exact k7 k hk
theorem jO9 {st : Sb} (had : Option Ent) {h : Hs} (hs : h.slab = st) (hin : ∀ e,had = some e → e.2 ∈ st.inn) {size : Int} (hf : jB3 st size (jD0 had) = true) : jB1 (jBd h had) size = 0:=by
 unfold jB3 at hf
 obtain ⟨h1,h2,h3,h4⟩:=of_decide_eq_true hf
 unfold jB1
 rw [if_pos h1]
 cases had with
 | none =>
  have e1 : jD0 none = 0:=rfl
  rw [e1] at h4
  rw [if_pos]
  show jBn h.slab + jAu (jA1 size) ≤ h.slab.bud
  rw [hs]
  omega
 | some e =>
  have hi:=hin e rfl
  have e1 : jD0 (some e) = jAu e.2.1:=rfl
  have e2 : jBd h (some e) = ⟨st.bud,st.inn.erase e.2,st.gone ++ [e.2],st.made⟩:=by show jBj h.slab e.2 = _;rw [hs];exact if_pos hi
  rw [e1] at h4
  rw [e2,if_pos]
  show jDp (st.inn.erase e.2) + jAu (jA1 size) ≤ st.bud
  rw [jLt _ _ hi]
  have e3 : jBn st = jDp st.inn:=rfl
  omega
theorem kBu : ∀ (l : List Nat) (k x : Nat),k < l.length → (l.set k x).sum + l.getD k 0 = l.sum + x
 | [],k,x,h => by simp at h
 | y :: l,0,x,h => by simp [List.getD];omega
 | y :: l,k + 1,x,h => by
  have:=kBu l k x (by simpa using h)
  simp [List.getD] at this ⊢
  omega
theorem kN0 {st : Sb} (g : jDo st) {size : Int} (h : jB1 st size = 0) : jBp st size = jBh st (jA1 size) ∧ (takeS st size).inn = st.inn ++ [jBp st size] ∧ (jBp st size).1 = (jA1 size : Int) ∧
  (takeS st size).inn.length + (takeS st size).gone.length + st.made.sum = st.inn.length + st.gone.length + (takeS st size).made.sum ∧ (takeS st size).made.sum ≤ st.made.sum + 1:=by
 have e1 : jBp st size = jBh st (jA1 size):=by unfold jBp;rw [if_pos h]
 have e2 : takeS st size = jC7 st (jA1 size) (jBh st (jA1 size)):=by unfold takeS;rw [if_pos h]
 have hk:=jNd size
 have hl:=g.len
 refine ⟨e1,?_,by rw [e1];exact jIu _ _,?_⟩
 ·rw [e2,e1]
  unfold jC7
  split <;> rfl
 ·rw [e2]
  unfold jC7
  split
  ·rename_i hm
   have:=List.length_erase_of_mem hm
   have hp:=List.length_pos_of_mem hm
   simp only [List.length_append,List.length_singleton]
   omega
  ·have:=kBu st.made (jA1 size) (st.made.getD (jA1 size) 0 + 1) (by omega)
   simp only [List.length_append,List.length_singleton]
   omega
theorem jPc {n : Nat} {h : Hs} (g : jAo n h) {i : Iv} (hi : i.ok) (hsz : jAl i ≤ 2048) {had : Option Ent} (hh : jA0 i.key h.ents = had) (hf : jB3 h.slab (jAl i) (jD0 had) = true) (hfew : h.ents.length + h.drops.length < n + 1) (hl : n ≤ 900 ∨ h.slab.bud ≤ 57600) : jAo (n + 1) (jJv h i had):=by
 have hin : ∀ e,had = some e → e.2 ∈ h.slab.inn:=fun e he => g.chunks.mem_iff.1 (List.mem_map.2 ⟨e,(jBs (hh.trans he)).1,rfl⟩)
 have ht:=jO9 had rfl hin hf
 have hpp:=jY6 g.rise (i,jBp (jBd h had) (jAl i))
 have hlen:=hpp.length_eq
 have fg : jDo (jBd h had) ∧ (jBd h had).inn.Perm ((jEp i.key h.ents).map fun e => e.2) ∧ (jBd h had).inn.length + (jBd h had).gone.length ≤ (jBd h had).made.sum ∧ (jBd h had).made.sum ≤ n ∧ jN5 (jBd h had) ∧ (jBd h had).bud = h.slab.bud:=by
  cases had with
  | none =>
   rw [jWw hh]
   exact ⟨g.slabG,g.chunks.symm,g.many,g.made,g.full,rfl⟩
  | some e =>
   have g1:=(jLf g hh).1
   exact ⟨g1.slabG,g1.chunks.symm,g1.many,g1.made,g1.full,jG2 _ _⟩
 obtain ⟨t1,t2,t3,t4,t5⟩:=kN0 fg.1 ht
 refine ⟨jF2 g.rise,?_,?_,jUg fg.1 _,?_,?_,g.jdG,?_,?_,?_,kDs fg.1 fg.2.2.2.2.1 _,?_⟩
 ·have h1 : ((jCp (i,jBp (jBd h had) (jAl i)) h.ents).map fun e => e.1.key).Perm (i.key :: (jEp i.key h.ents).map fun e => e.1.key):=hpp.map fun e : Ent => e.1.key
  refine List.Perm.trans ?_ h1.symm
  rw [jRh]
  cases had with
  | none =>
   have hno : ¬ i.key ∈ jA3 h.ord:=fun hm => by
    obtain ⟨e,he⟩:=jU8 g hm
    rw [hh] at he
    cases he
   show (jA3 (jJ9 h.ord i.key)).Perm _
   rw [(jP5 hno).2,jFv (fun hm => hno (g.keys.mem_iff.2 hm))]
   show (h.ord.trial ++ [i.key] ++ h.ord.safe).Perm _
   rw [List.append_assoc]
   exact (List.perm_middle).trans (g.keys.cons _)
  | some e =>
   show (jA3 h.ord).Perm _
   have hp:=(jNt g.rise (jBs hh).1).map fun e : Ent => e.1.key
   rw [List.map_cons,(jBs hh).2,jRh] at hp
   exact g.keys.trans hp
 ·cases had with
  | none => exact jVm g.ordG _
  | some e => exact g.ordG
 ·show ((jCp (i,jBp (jBd h had) (jAl i)) h.ents).map fun e => e.2).Perm (takeS (jBd h had) (jAl i)).inn
  rw [t2]
  exact (hpp.map fun e : Ent => e.2).trans ((List.Perm.cons _ fg.2.1.symm).trans (List.perm_append_singleton _ _).symm)
 ·intro e he
  rcases jKb.1 he with rfl | ⟨he,_⟩
  ·exact ⟨hi,hsz,t3⟩
  ·exact g.cls e he
 ·show (takeS (jBd h had) (jAl i)).inn.length + _ ≤ _
  have:=fg.2.2.1
  show (takeS (jBd h had) (jAl i)).inn.length + (takeS (jBd h had) (jAl i)).gone.length ≤ (takeS (jBd h had) (jAl i)).made.sum
  omega
 ·show (takeS (jBd h had) (jAl i)).made.sum ≤ n + 1
  have:=fg.2.2.2.1
  omega
 ·show (jCp (i,jBp (jBd h had) (jAl i)) h.ents).length + h.drops.length ≤ n + 1
  rw [hlen,List.length_cons]
  cases had with
  | none =>
   rw [show (i,jBp (jBd h none) (jAl i)).1.key = i.key from rfl,jWw hh]
   omega
  | some e =>
   have hp:=(jNt g.rise (jBs hh).1).length_eq
   rw [(jBs hh).2,List.length_cons] at hp
   show (jEp i.key h.ents).length + 1 + h.drops.length ≤ n + 1
   omega
 ·show n + 1 ≤ 901 ∨ (takeS (jBd h had) (jAl i)).bud ≤ 57600
  rw [jYp,fg.2.2.2.2.2]
  exact hl.imp Nat.succ_le_succ id
theorem jPn {n : Nat} {h : Hs} (g : jAo n h) {i : Iv} (hi : i.ok) : jAo n (jBa h i):=by
 unfold jBa
 cases hf : jA0 i.key h.ents with
 | none => exact g
 | some e =>
  dsimp only
  by_cases hl : i.val.length = e.1.val.length
  ·rw [if_pos hl]
   obtain ⟨he,hk⟩:=jBs hf
   have hp:=jNt g.rise he
   rw [hk] at hp
   have hpp:=jY6 g.rise (i,e.2)
   have hlen:=hpp.length_eq.trans hp.length_eq.symm
   have hsz : jAl i = jAl e.1:=by unfold jAl;rw [hk,hl]
   refine ⟨jF2 g.rise,?_,g.ordG,g.slabG,?_,?_,g.jdG,g.many,g.made,?_,g.full,g.lim⟩
   ·have h1:=hpp.map fun e : Ent => e.1.key
    have h2:=hp.map fun e : Ent => e.1.key
    rw [List.map_cons] at h1 h2
    rw [hk] at h2
    exact g.keys.trans (h2.trans h1.symm)
   ·exact ((hpp.map fun e : Ent => e.2).trans (hp.map fun e : Ent => e.2).symm).trans g.chunks
   ·intro x hx
    rcases jKb.1 hx with rfl | ⟨hx,_⟩
    ·have:=g.cls e he
     exact ⟨hi,by rw [hsz];exact this.2.1,by rw [hsz];exact this.2.2⟩
    ·exact g.cls x hx
   ·show (jCp (i,e.2) h.ents).length + h.drops.length ≤ n
    rw [hlen]
    exact g.few
  ·rw [if_neg hl]
   exact g
theorem jGq {h : Hs} {k : ByteArray} {en : En} : (jAy h k en).jd = h.jd ∧ (jAy h k en).slab.bud = h.slab.bud ∧ (jAy h k en).ord.most = h.ord.most:=by
 unfold jAy
 split
 ·exact ⟨rfl,rfl,rfl⟩
 ·rename_i e hf
  split
  ·exact ⟨rfl,rfl,rfl⟩
  ·rw [jG3 hf]
   exact ⟨rfl,jG2 _ _,rfl⟩
theorem jQ2 {n : Nat} {h : Hs} (g : jAo n h) (sd : Nat) {i : Iv} (hi : i.ok) (en : En) (hl : n ≤ 900 ∨ h.slab.bud ≤ 57600) : jAo (n + 1) (jBk sd h i en).2:=by
 unfold jBk
 by_cases hsz : 2048 < jAl i
 ·rw [if_pos hsz]
  exact jH8 g (Nat.le_succ n) (hl.imp Nat.succ_le_succ id)
 ·rw [if_neg hsz]
  have gl:=jCf g i.key en
  obtain ⟨rm,r0,_⟩:=jKv sd i (jAp h i.key en) en _ _ rfl gl
  have hb : (jAz sd i (jAp h i.key en) en (jAy h i.key en)).2.slab.bud = h.slab.bud:=rm.bud.trans (jGq (en:=en)).2.1
  by_cases h0 : (jAz sd i (jAp h i.key en) en (jAy h i.key en)).1 = 0
  ·rw [if_pos h0]
   have hfew:=rm.good.few
   exact jPc rm.good hi (by omega) (rm.find.trans (jKm h i.key en).symm) (r0 h0) (by omega) (by rw [hb];exact hl)
  ·rw [if_neg h0]
   exact jH8 rm.good (Nat.le_succ n) (by rw [hb];exact hl.imp Nat.succ_le_succ id)
end Go.Proofs.YtkfeafmpaodagaaGreatDoor
