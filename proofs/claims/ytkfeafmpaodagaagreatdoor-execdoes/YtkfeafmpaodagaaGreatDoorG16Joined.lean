/- Buckets of texts over lists alone: nothing of the program is run here. Conditions: none. Rows of entries, each a text and a number, and rows of such rows, in memory. Conditions: none. -/
import Derived.Test.YtkfeafmpaodagaaGreatDoorG03Joined
import Derived.Test.YtkfeafmpaodagaaGreatDoorG11Joined
import Derived.Test.YtkfeafmpaodagaaGreatDoorG00Joined
import Derived.Lib.AppendZeros
namespace Go.Proofs.YtkfeafmpaodagaaGreatDoor
set_option maxHeartbeats 16000000
section
def jDm {α : Type} (f : Nat → α) (i : Nat) (x : α) : Nat → α:=fun j => if j = i then x else f j
theorem jK9 {α : Type} (f : Nat → α) (i : Nat) (x : α) : jDm f i x i = x:=if_pos rfl
theorem jG4 {α : Type} (f : Nat → α) {i j : Nat} (x : α) (h : j ≠ i) : jDm f i x j = f j:=if_neg h
theorem jHk {α : Type} (f : Nat → α) (i : Nat) : jDm f i (f i) = f:=by
 funext j
 unfold jDm
 split
 ·rename_i h
  rw [h]
 ·rfl
def jA4 (n : Nat) (B : Nat → List Kv) : List Kv:=(List.range n).flatMap B
theorem jEx (n : Nat) (B : Nat → List Kv) : jA4 (n + 1) B = jA4 n B ++ B n:=by simp [jA4,List.range_succ]
theorem jSv {f g : Nat → List Kv} : ∀ {n : Nat},(∀ i,i < n → f i = g i) → jA4 n f = jA4 n g
 | 0,_ => rfl
 | n + 1,h => by rw [jEx,jEx,jSv (fun i hi => h i (Nat.lt_succ_of_lt hi)),h n (Nat.lt_succ_self n)]
theorem jNs {n : Nat} {B : Nat → List Kv} {p : Kv} : p ∈ jA4 n B ↔ ∃ i,i < n ∧ p ∈ B i:=by simp [jA4]
theorem jUx (n : Nat) : jA4 n (fun _ => []) = []:=by
 induction n with
 | zero => rfl
 | succ n ih => rw [jEx,ih];rfl
theorem jK1 (B : Nat → List Kv) (j : Nat) : ∀ n,j < n → ∃ rest,∀ L,(jA4 n (jDm B j L)).Perm (L ++ rest)
 | 0,h => absurd h (Nat.not_lt_zero _)
 | n + 1,h => by
  by_cases e : j = n
  ·subst e
   refine ⟨jA4 j B,fun L => ?_⟩
   rw [jEx,jK9,jSv (g:=B) (fun i hi => jG4 B L (Nat.ne_of_lt hi))]
   exact List.perm_append_comm
  ·obtain ⟨rest,hr⟩:=jK1 B j n (by omega)
   refine ⟨rest ++ B n,fun L => ?_⟩
   rw [jEx,jG4 B L (Ne.symm e),← List.append_assoc]
   exact (hr L).append_right _
def jD7 (l : List Kv) : Prop:=(l.map (·.1)).Nodup
theorem jXa {l : List Kv} (h : jD7 l) : l.Nodup:=by
 unfold jD7 List.Nodup at h
 rw [List.pairwise_map] at h
 exact List.Pairwise.imp (fun hab e => hab (by rw [e])) h
theorem jE7 {l : List Kv} (h : jCl l) : jD7 l:=by
 unfold jD7 List.Nodup
 rw [List.pairwise_map]
 exact List.Pairwise.imp (fun hab => jEz hab) h
theorem jD7.perm {a b : List Kv} (h : jD7 a) (hp : a.Perm b) : jD7 b:=(hp.map _).nodup_iff.1 h
theorem jXb {a b : List Kv} (ha : jD7 a) (hb : jD7 b) (h : ∀ p,p ∈ a ↔ p ∈ b) : a.Perm b:=(List.perm_ext_iff_of_nodup (jXa ha) (jXa hb)).2 h
theorem jTs {k : ByteArray} {x : Int} {o : List Kv} (h : jD7 ((k,x) :: o)) : ∀ p ∈ o,p.1 ≠ k:=by
 unfold jD7 at h
 rw [List.map_cons,List.nodup_cons] at h
 exact fun p hp e => h.1 (List.mem_map.2 ⟨p,hp,e⟩)
theorem kGk {l o : List Kv} {k : ByteArray} {x v : Int} (hr : jCl l) (hp : l.Perm ((k,x) :: o)) : (jEs k v l).Perm ((k,v) :: o):=by
 have hn:=(jE7 hr).perm hp
 have hne:=jTs hn
 refine jXb (jE7 (jH3 hr)) hn fun p => ?_
 rw [jKd hr,hp.mem_iff]
 simp only [List.mem_cons]
 constructor
 ·rintro (h | ⟨h | h,hk⟩)
  ·exact .inl h
  ·exact absurd (by rw [h]) hk
  ·exact .inr h
 ·rintro (h | h)
  ·exact .inl h
  ·exact .inr ⟨.inr h,hne p h⟩
theorem kMg {l : List Kv} {k : ByteArray} {v : Int} (hr : jCl l) (hn : ∀ p ∈ l,p.1 ≠ k) : (jEs k v l).Perm ((k,v) :: l):=by
 refine jXb (jE7 (jH3 hr)) ?_ fun p => ?_
 ·unfold jD7
  rw [List.map_cons,List.nodup_cons]
  refine ⟨fun h => ?_,jE7 hr⟩
  obtain ⟨p,hp,e⟩:=List.mem_map.1 h
  exact hn p hp e
 ·rw [jKd hr]
  simp only [List.mem_cons]
  exact ⟨fun h => h.imp id fun h => h.1,fun h => h.imp id fun h => ⟨h,hn p h⟩⟩
theorem kFn {l o : List Kv} {k : ByteArray} {x : Int} (hr : jCl l) (hp : l.Perm ((k,x) :: o)) : (jG0 k l).Perm o:=by
 have hne:=jTs ((jE7 hr).perm hp)
 refine (hp.filter _).trans ?_
 rw [List.filter_cons_of_neg (by simp),List.filter_eq_self.2 (fun p h => by simpa using hne p h)]
theorem kG6 {l : List Kv} {k : ByteArray} (hn : ∀ p ∈ l,p.1 ≠ k) : jG0 k l = l:=List.filter_eq_self.2 fun p h => by simpa using hn p h
theorem jUb {l : List Kv} {k : ByteArray} {x : Int} (hn : jD7 l) (h : (k,x) ∈ l) : jEh k l = some x:=by
 obtain ⟨a,b,rfl⟩:=List.append_of_mem h
 have hne:=jTs (hn.perm List.perm_middle)
 unfold jEh
 rw [List.find?_append]
 have : a.find? (fun p => decide (p.1 = k)) = none:=List.find?_eq_none.2 fun p hp => by simpa using hne p (List.mem_append_left _ hp)
 rw [this]
 simp
theorem jRs {l : List Kv} {k : ByteArray} (hn : ∀ p ∈ l,p.1 ≠ k) : jEh k l = none:=by
 unfold jEh
 rw [List.find?_eq_none.2 fun p hp => by simpa using hn p hp]
 rfl
/-! In one bucket. -/
def jNn (k : ByteArray) (v : Int) : List Kv → List Kv
 | [] => [(k,v)]
 | p :: l => if p.1 = k then (k,v) :: l else p :: jNn k v l
def jN0 (k : ByteArray) : List Kv → List Kv
 | [] => []
 | p :: l => if p.1 = k then l else p :: jN0 k l
def jLh (k : ByteArray) (l : List Kv) : Bool:=l.any fun p => decide (p.1 = k)
theorem jH6 (k : ByteArray) : ∀ l : List Kv,(∃ pre x post,l = pre ++ (k,x) :: post ∧ ∀ p ∈ pre,p.1 ≠ k) ∨ ∀ p ∈ l,p.1 ≠ k
 | [] => .inr (by simp)
 | (a,x) :: l => by
  by_cases e : a = k
  ·subst e
   exact .inl ⟨[],x,l,rfl,by simp⟩
  ·rcases jH6 k l with ⟨pre,y,post,rfl,h⟩ | h
   ·refine .inl ⟨(a,x) :: pre,y,post,rfl,fun p hp => ?_⟩
    rcases List.mem_cons.1 hp with rfl | hp
    ·exact e
    ·exact h p hp
   ·refine .inr fun p hp => ?_
    rcases List.mem_cons.1 hp with rfl | hp
    ·exact e
    ·exact h p hp
theorem jN8 {k : ByteArray} {x v : Int} {post : List Kv} : ∀ {pre : List Kv},(∀ p ∈ pre,p.1 ≠ k) → jNn k v (pre ++ (k,x) :: post) = pre ++ (k,v) :: post
 | [],_ => by simp [jNn]
 | p :: l,h => by
  rw [List.cons_append]
  unfold jNn
  rw [if_neg (h p List.mem_cons_self),jN8 fun q hq => h q (List.mem_cons_of_mem _ hq)]
  rfl
theorem jMy {k : ByteArray} {v : Int} : ∀ {l : List Kv},(∀ p ∈ l,p.1 ≠ k) → jNn k v l = l ++ [(k,v)]
 | [],_ => rfl
 | p :: l,h => by
  unfold jNn
  rw [if_neg (h p List.mem_cons_self),jMy fun q hq => h q (List.mem_cons_of_mem _ hq)]
  rfl
theorem jN1 {k : ByteArray} {x : Int} {post : List Kv} : ∀ {pre : List Kv},(∀ p ∈ pre,p.1 ≠ k) → jN0 k (pre ++ (k,x) :: post) = pre ++ post
 | [],_ => by simp [jN0]
 | p :: l,h => by
  rw [List.cons_append]
  unfold jN0
  rw [if_neg (h p List.mem_cons_self),jN1 fun q hq => h q (List.mem_cons_of_mem _ hq)]
  rfl
theorem jMk {k : ByteArray} : ∀ {l : List Kv},(∀ p ∈ l,p.1 ≠ k) → jN0 k l = l
 | [],_ => rfl
 | p :: l,h => by
  unfold jN0
  rw [if_neg (h p List.mem_cons_self),jMk fun q hq => h q (List.mem_cons_of_mem _ hq)]
theorem jJ5 {k : ByteArray} {x : Int} {pre post : List Kv} : jLh k (pre ++ (k,x) :: post) = true:=by simp [jLh]
theorem jI8 {k : ByteArray} {l : List Kv} (h : ∀ p ∈ l,p.1 ≠ k) : jLh k l = false:=by
 unfold jLh
 rw [List.any_eq_false]
 exact fun p hp => by simpa using h p hp
theorem kKe {k : ByteArray} {v : Int} {l : List Kv} {p : Kv} (h : p ∈ jNn k v l) : p.1 = k ∨ p ∈ l:=by
 rcases jH6 k l with ⟨pre,x,post,rfl,hp⟩ | hn
 ·rw [jN8 hp] at h
  rcases List.mem_append.1 h with h | h
  ·exact .inr (List.mem_append_left _ h)
  ·rcases List.mem_cons.1 h with rfl | h
   ·exact .inl rfl
   ·exact .inr (List.mem_append_right _ (List.mem_cons_of_mem _ h))
 ·rw [jMy hn] at h
  rcases List.mem_append.1 h with h | h
  ·exact .inr h
  ·rw [List.mem_singleton.1 h]
   exact .inl rfl
theorem kMr {k : ByteArray} {l : List Kv} {p : Kv} (h : p ∈ jN0 k l) : p ∈ l:=by
 rcases jH6 k l with ⟨pre,x,post,rfl,hp⟩ | hn
 ·rw [jN1 hp] at h
  rcases List.mem_append.1 h with h | h
  ·exact List.mem_append_left _ h
  ·exact List.mem_append_right _ (List.mem_cons_of_mem _ h)
 ·rwa [jMk hn] at h
theorem jOa (pre : List Kv) (a : Kv) (post rest : List Kv) : ((pre ++ a :: post) ++ rest).Perm (a :: (pre ++ post ++ rest)):=by
 rw [List.append_assoc,List.append_assoc,List.cons_append]
 exact List.perm_middle
structure jTk (l L : List Kv) (k : ByteArray) : Prop where
 rise : jCl l
 only : ∀ p ∈ l,p.1 = k → p ∈ L
theorem jYl {l L rest : List Kv} {k : ByteArray} (h : jTk l L k) (v : Int) (hp : l.Perm (L ++ rest)) : (jNn k v L ++ rest).Perm (jEs k v l) ∧ (jEs k v l).length = l.length + (if jLh k L then 0 else 1):=by
 rcases jH6 k L with ⟨pre,x,post,rfl,hpre⟩ | hn
 ·have h1:=kGk (v:=v) h.rise (hp.trans (jOa _ _ _ _))
  have h2:=hp.trans (jOa _ _ _ _)
  rw [jN8 hpre,jJ5]
  refine ⟨(jOa _ _ _ _).trans h1.symm,?_⟩
  rw [h1.length_eq,h2.length_eq]
  simp
 ·have hn' : ∀ p ∈ l,p.1 ≠ k:=fun p hpl e => hn p (h.only p hpl e) e
  have h1:=kMg (v:=v) h.rise hn'
  rw [jMy hn,jI8 hn]
  refine ⟨?_,by rw [h1.length_eq];simp⟩
  rw [List.append_assoc]
  exact (List.perm_middle (l₁:=L) (a:=(k,v)) (l₂:=rest)).trans ((hp.symm.cons _).trans h1.symm)
theorem jXc {l L rest : List Kv} {k : ByteArray} (h : jTk l L k) (hp : l.Perm (L ++ rest)) : (jN0 k L ++ rest).Perm (jG0 k l) ∧ l.length = (jG0 k l).length + (if jLh k L then 1 else 0):=by
 rcases jH6 k L with ⟨pre,x,post,rfl,hpre⟩ | hn
 ·have h2:=hp.trans (jOa _ _ _ _)
  have h1:=kFn h.rise h2
  rw [jN1 hpre,jJ5]
  refine ⟨h1.symm,?_⟩
  rw [h2.length_eq,h1.length_eq]
  simp
 ·have hn' : ∀ p ∈ l,p.1 ≠ k:=fun p hpl e => hn p (h.only p hpl e) e
  rw [jMk hn,jI8 hn,kG6 hn']
  exact ⟨hp.symm,by simp⟩
theorem jRr {l L rest : List Kv} {k : ByteArray} (h : jTk l L k) (hp : l.Perm (L ++ rest)) : jEh k L = jEh k l ∧ jLh k L = (jEh k l).isSome:=by
 rcases jH6 k L with ⟨pre,x,post,rfl,hpre⟩ | hn
 ·have hn:=jE7 h.rise
  have hin : (k,x) ∈ l:=hp.mem_iff.2 (by simp)
  rw [jUb hn hin,jJ5]
  refine ⟨?_,rfl⟩
  refine jUb ?_ (by simp)
  have:=hn.perm hp
  unfold jD7 at this ⊢
  rw [List.map_append,List.nodup_append] at this
  exact this.1
 ·have hn' : ∀ p ∈ l,p.1 ≠ k:=fun p hpl e => hn p (h.only p hpl e) e
  rw [jRs hn',jRs hn,jI8 hn]
  exact ⟨rfl,rfl⟩
/-! In all of them. -/
def plN (sd n : Nat) (k : ByteArray) : Nat:=ofN sd k.data.toList % n
structure jFa (sd N left : Nat) (B E : Nat → List Kv) (l : List Kv) : Prop where
 perm : (jA4 left E ++ jA4 N B).Perm l
 inE : ∀ i,i < left → ∀ p ∈ E i,plN sd (N / 2) p.1 = i
 inB : ∀ i,i < N → ∀ p ∈ B i,plN sd N p.1 = i ∧ left ≤ plN sd (N / 2) p.1
section
variable {sd N left : Nat} {B E : Nat → List Kv} {l : List Kv} {k : ByteArray}
theorem jFa.oneE (h : jFa sd N left B E l) (hr : jCl l) (hk : plN sd (N / 2) k < left) : jTk l (E (plN sd (N / 2) k)) k:=by
 refine ⟨hr,fun p hp e => ?_⟩
 rcases List.mem_append.1 (h.perm.mem_iff.2 hp) with h1 | h1
 ·obtain ⟨i,hi,h2⟩:=jNs.1 h1
  have:=h.inE i hi p h2
  rw [e] at this
  rwa [this]
 ·obtain ⟨i,hi,h2⟩:=jNs.1 h1
  have:=(h.inB i hi p h2).2
  rw [e] at this
  omega
theorem jFa.oneB (h : jFa sd N left B E l) (hr : jCl l) (hk : left ≤ plN sd (N / 2) k) : jTk l (B (plN sd N k)) k:=by
 refine ⟨hr,fun p hp e => ?_⟩
 rcases List.mem_append.1 (h.perm.mem_iff.2 hp) with h1 | h1
 ·obtain ⟨i,hi,h2⟩:=jNs.1 h1
  have:=h.inE i hi p h2
  rw [e] at this
  omega
 ·obtain ⟨i,hi,h2⟩:=jNs.1 h1
  have:=(h.inB i hi p h2).1
  rw [e] at this
  rwa [this]
theorem jFa.restE (h : jFa sd N left B E l) {i : Nat} (hi : i < left) : ∃ rest,l.Perm (E i ++ rest) ∧ ∀ L,(jA4 left (jDm E i L) ++ jA4 N B).Perm (L ++ rest):=by
 obtain ⟨rest,hr⟩:=jK1 E i left hi
 have key : ∀ L,(jA4 left (jDm E i L) ++ jA4 N B).Perm (L ++ (rest ++ jA4 N B)):=fun L => by
  rw [← List.append_assoc]
  exact (hr L).append_right _
 refine ⟨rest ++ jA4 N B,?_,key⟩
 have:=key (E i)
 rw [jHk] at this
 exact h.perm.symm.trans this
theorem jFa.restB (h : jFa sd N left B E l) {i : Nat} (hi : i < N) : ∃ rest,l.Perm (B i ++ rest) ∧ ∀ L,(jA4 left E ++ jA4 N (jDm B i L)).Perm (L ++ rest):=by
 obtain ⟨rest,hr⟩:=jK1 B i N hi
 have key : ∀ L,(jA4 left E ++ jA4 N (jDm B i L)).Perm (L ++ (rest ++ jA4 left E)):=fun L => by
  rw [← List.append_assoc]
  exact ((hr L).append_left _).trans List.perm_append_comm
 refine ⟨rest ++ jA4 left E,?_,key⟩
 have:=key (B i)
 rw [jHk] at this
 exact h.perm.symm.trans this
theorem jFa.setE (h : jFa sd N left B E l) {i : Nat} {L l' : List Kv} (hin : ∀ p ∈ L,plN sd (N / 2) p.1 = i) (hp : (jA4 left (jDm E i L) ++ jA4 N B).Perm l') : jFa sd N left B (jDm E i L) l':=by
 refine ⟨hp,fun j hj p hpj => ?_,h.inB⟩
 by_cases e : j = i
 ·rw [e,jK9] at hpj
  rw [e]
  exact hin p hpj
 ·rw [jG4 _ _ e] at hpj
  exact h.inE j hj p hpj
theorem jFa.setB (h : jFa sd N left B E l) {i : Nat} {L l' : List Kv} (hin : ∀ p ∈ L,plN sd N p.1 = i ∧ left ≤ plN sd (N / 2) p.1) (hp : (jA4 left E ++ jA4 N (jDm B i L)).Perm l') : jFa sd N left (jDm B i L) E l':=by
 refine ⟨hp,h.inE,fun j hj p hpj => ?_⟩
 by_cases e : j = i
 ·rw [e,jK9] at hpj
  rw [e]
  exact hin p hpj
 ·rw [jG4 _ _ e] at hpj
  exact h.inB j hj p hpj
theorem jFa.grow (h : jFa sd N 0 B E l) : jFa sd (2 * N) N (fun _ => []) B l:=by
 have e : 2 * N / 2 = N:=by omega
 refine ⟨?_,fun i hi p hp => by rw [e];exact (h.inB i hi p hp).1,fun _ _ p hp => by cases hp⟩
 have:=h.perm
 rw [jUx,List.append_nil]
 exact this
end
structure jK4 (sd N last : Nat) (B E : Nat → List Kv) (todo l : List Kv) : Prop where
 perm : (jA4 last E ++ jA4 N B ++ todo).Perm l
 inE : ∀ i,i < last → ∀ p ∈ E i,plN sd (N / 2) p.1 = i
 inB : ∀ i,i < N → ∀ p ∈ B i,plN sd N p.1 = i ∧ last ≤ plN sd (N / 2) p.1
 todo : ∀ p ∈ todo,plN sd (N / 2) p.1 = last
theorem jFa.moving {sd N last : Nat} {B E : Nat → List Kv} {l : List Kv} (h : jFa sd N (last + 1) B E l) : jK4 sd N last B E (E last) l:=by
 refine ⟨?_,fun i hi => h.inE i (by omega),fun i hi p hp => ⟨(h.inB i hi p hp).1,by have:=(h.inB i hi p hp).2;omega⟩,h.inE last (Nat.lt_succ_self _)⟩
 refine List.Perm.trans ?_ h.perm
 rw [jEx,List.append_assoc,List.append_assoc]
 exact List.perm_append_comm.append_left _
theorem jK4.step {sd N last : Nat} {B E : Nat → List Kv} {l todo : List Kv} {p : Kv} (h : jK4 sd N last B E (p :: todo) l) (hN : 0 < N) : jK4 sd N last (jDm B (plN sd N p.1) (B (plN sd N p.1) ++ [p])) E todo l:=by
 have hi : plN sd N p.1 < N:=Nat.mod_lt _ hN
 obtain ⟨rest,hr⟩:=jK1 B _ N hi
 have h1:=hr (B (plN sd N p.1))
 rw [jHk] at h1
 refine ⟨?_,h.inE,fun j hj q hq => ?_,fun q hq => h.todo q (List.mem_cons_of_mem _ hq)⟩
 ·refine List.Perm.trans ?_ h.perm
  rw [List.append_assoc,List.append_assoc]
  refine List.Perm.append_left _ ?_
  refine ((hr _).append_right _).trans (List.Perm.trans ?_ (h1.symm.append_right _))
  rw [List.append_assoc,List.append_assoc,List.append_assoc]
  refine List.Perm.append_left _ ?_
  show (p :: (rest ++ todo)).Perm _
  exact List.perm_middle.symm
 ·by_cases e : j = plN sd N p.1
  ·rw [e,jK9] at hq
   rw [e]
   rcases List.mem_append.1 hq with hq | hq
   ·exact h.inB _ hi q hq
   ·rw [List.mem_singleton.1 hq]
    exact ⟨rfl,by rw [h.todo p List.mem_cons_self];exact Nat.le_refl _⟩
  ·rw [jG4 _ _ e] at hq
   exact h.inB j hj q hq
theorem jK4.done {sd N last : Nat} {B E : Nat → List Kv} {l : List Kv} (h : jK4 sd N last B E [] l) : jFa sd N last B E l:=⟨by have:=h.perm;rwa [List.append_nil] at this,h.inE,h.inB⟩
end
section
open Go.RowKit
theorem jJe : (Tryz.prog.info? 184).map (fun i => (i.zero,i.size,i.bytes)) = some (some (.agg #[.string ⟨#[]⟩,.pointer none]),2,24):=by kernel_rfl
theorem jZw : (Tryz.prog.info? 181).map (fun i => (i.zero,i.size,i.bytes)) = some (some (.slice none 0 0),1,24):=by kernel_rfl
def enV (xs : List Kv) : List Value:=xs.flatMap fun p => [.string p.1,.pointer (some ⟨Int.toNat p.2,0,none⟩)]
theorem jJ8 (xs ys : List Kv) : enV (xs ++ ys) = enV xs ++ enV ys:=by simp [enV]
theorem kBe (p : Kv) : enV [p] = [.string p.1,.pointer (some ⟨Int.toNat p.2,0,none⟩)]:=by simp [enV]
theorem jGa (xs : List Kv) : (enV xs).length = xs.length * 2:=by
 induction xs with
 | nil => rfl
 | cons p l ih =>
  show (enV l).length + 1 + 1 = _
  rw [ih,List.length_cons]
  omega
theorem jSn : ∀ {xs : List Kv} {i : Nat} {p : Kv},xs[i]? = some p → (enV xs)[i * 2]? = some (.string p.1) ∧ (enV xs)[i * 2 + 1]? = some (.pointer (some ⟨Int.toNat p.2,0,none⟩))
 | [],i,p,h => by simp at h
 | a :: l,0,p,h => by
  simp at h
  subst h
  exact ⟨rfl,rfl⟩
 | a :: l,i + 1,p,h => by
  have h : l[i]? = some p:=by simpa using h
  have:=jSn h
  have e1 : (i + 1) * 2 = i * 2 + 2:=by omega
  rw [e1]
  exact this
theorem jWy (l : List Kv) : ∀ u ∈ enV l,u.oneCell' = true:=by
 intro u hu
 unfold enV at hu
 rw [List.mem_flatMap] at hu
 obtain ⟨p,_,hu⟩:=hu
 simp at hu
 rcases hu with rfl | rfl <;> rfl
theorem kLv (l : List Kv) (k : Nat) : (enV l).take (k * 2) = enV (l.take k):=by
 by_cases h : k ≤ l.length
 ·have e : l = l.take k ++ l.drop k:=(List.take_append_drop k l).symm
  have h2 : (enV (l.take k)).length = k * 2:=by rw [jGa,List.length_take,Nat.min_eq_left h]
  rw (occs:=[1]) [e]
  rw [jJ8,← h2,List.take_left']
  rfl
 ·rw [List.take_of_length_le (l:=l) (by omega),List.take_of_length_le (l:=enV l) (by rw [jGa];omega)]
theorem kLk (l : List Kv) (k : Nat) (h : k ≤ l.length) : (enV l).drop (k * 2) = enV (l.drop k):=by
 have e : l = l.take k ++ l.drop k:=(List.take_append_drop k l).symm
 have h2 : (enV (l.take k)).length = k * 2:=by rw [jGa,List.length_take,Nat.min_eq_left h]
 rw (occs:=[1]) [e]
 rw [jJ8,← h2,List.drop_left']
 rfl
abbrev jKe (w : World) (v : Value) (l : List Kv) : Prop:=w.ownsRow 0 184 2 v l.length (enV l)
abbrev enP (v : Value) (l : List Kv) : jAd:=jB2 0 184 2 v l.length (enV l)
theorem jJ6 {w : World} {n cap : Nat} {pa : Option Addr} {l : List Kv} (h : w.ownsRow 0 184 2 (.slice pa n cap) n (enV l)) {i : Nat} {p : Kv} (hi : l[i]? = some p) : ∃ g,pa = some ⟨g,0,none⟩ ∧ w.cell? ⟨g,i * 2,none⟩ = some (.string p.1) ∧ w.cell? ⟨g,i * 2 + 1,none⟩ = some (.pointer (some ⟨Int.toNat p.2,0,none⟩)):=by
 have hl:=(List.getElem?_eq_some_iff.1 hi).1
 have hn : l.length * 2 = n * 2:=(jGa l).symm.trans h.1
 obtain ⟨g,cap',e⟩:=jCk h (by omega)
 cases e
 obtain ⟨k1,k2⟩:=jSn hi
 exact ⟨g,rfl,(h.cellAt _ (by omega)).trans k1,(h.cellAt _ (by omega)).trans k2⟩
theorem jYk {w : World} {e : TypeId} {size g n cap k : Nat} {xs : List Value} (h : w.ownsRow 0 e size (.slice (some ⟨g,0,none⟩) n cap) n xs) (hk : k ≤ n) : w.ownsRow 0 e size (.slice (some ⟨g,0,none⟩) k cap) k (xs.take (k * size)):=by
 have hle : k * size ≤ n * size:=Nat.mul_le_mul_right _ hk
 refine ⟨by rw [List.length_take,h.1];omega,?_⟩
 rcases h.2 with ⟨h',_⟩ | ⟨g',cap',cur,h',hb,hg,hnc,hcm,hcs,htake⟩
 ·simp at h'
 ·simp only [Value.slice.injEq,Option.some.injEq,Addr.mk.injEq,and_true,true_and] at h'
  obtain ⟨rfl,rfl⟩:=h'
  exact .inr ⟨g,cap,cur,rfl,hb,hg,Nat.le_trans hk hnc,hcm,hcs,by rw [← htake,List.take_take,Nat.min_eq_left hle]⟩
def jGw (n : Nat) (f : Nat → Value) : List Value:=(List.range n).map f
theorem jNy (n : Nat) (f : Nat → Value) : (jGw n f).length = n:=by simp [jGw]
theorem jT4 {n i : Nat} (f : Nat → Value) (h : i < n) : (jGw n f)[i]? = some (f i):=by simp [jGw,h]
theorem kKg {n i : Nat} (f : Nat → Value) (u : Value) : (jGw n f).set i u = jGw n (jDm f i u):=by
 apply List.ext_getElem?
 intro j
 rw [List.getElem?_set]
 by_cases hj : j < n
 ·rw [jT4 _ hj,jT4 _ hj,jNy]
  by_cases e : i = j
  ·subst e
   rw [if_pos rfl,if_pos hj,jK9]
  ·rw [if_neg e,jG4 _ _ (Ne.symm e)]
 ·have h1 : (jGw n f)[j]? = none:=List.getElem?_eq_none (by rw [jNy];omega)
  have h2 : (jGw n (jDm f i u))[j]? = none:=List.getElem?_eq_none (by rw [jNy];omega)
  rw [h1,h2,jNy]
  split
  ·rw [if_neg (by omega)]
  ·rfl
theorem kE5 (n k : Nat) (f : Nat → Value) (h : k ≤ n) : (jGw n f).take k = jGw k f:=by
 unfold jGw
 rw [← List.map_take,List.take_range,Nat.min_eq_left h]
abbrev arP (v : Value) (n : Nat) (f : Nat → Value) : jAd:=jB2 0 181 1 v n (jGw n f)
theorem jGc {w : World} {g n cap i : Nat} {f : Nat → Value} (h : (arP (.slice (some ⟨g,0,none⟩) n cap) n f).q w) (hi : i < n) : w.cell? ⟨g,i,none⟩ = some (f i) ∧ w.frozen? ⟨g,i,none⟩ = false :=
 ⟨(World.ownsRow.cellAt h i (by omega)).trans (jT4 f hi),World.ownsRow.frozenAt h i⟩
theorem jAb.arSet {F : Nat → Prop} {w0 w : World} {R : jAd} {g n cap i : Nat} {f : Nat → Value} (H : jAb F w0 w ((arP (.slice (some ⟨g,0,none⟩) n cap) n f).and R)) (u : Value) : jAb F w0 (w.setCell ⟨g,i,none⟩ u) ((arP (.slice (some ⟨g,0,none⟩) n cap) n (jDm f i u)).and R):=by
 obtain ⟨h1,h2⟩:=World.ownsRow.stored H.q.1 i u
 rw [kKg] at h1
 exact H.app0 h1 h2 (.inl rfl)
theorem jV5 (w : World) (base : Nat) (ty : TypeId) {v x : Value} {n : Nat} {xs : List Value} {ys : List Kv} (hown : w.ownsRow base 184 2 v n xs) (hx : jKe w x ys) (hn : n + ys.length ≤ 100000) (hb : base ≤ w.heap.size) :
  ∃ v' w',(Builtin.append_ #[181,181] ty #[v,x]).run Tryz.prog w = .ok v' w' ∧ w'.ownsRow base 184 2 v' (n + ys.length) (xs ++ enV ys) ∧ w.grownBy w' v.ownBlock ∧ (v'.ownBlock = v.ownBlock ∨ v'.ownBlock = some w.heap.size):=by
 obtain ⟨i0,hi,hz0,hz1,hz2⟩:=info_parts jJe
 rcases hx.2 with ⟨rfl,h0⟩ | ⟨g,cap,cur,rfl,_⟩
 ·have hy : ys = []:=List.length_eq_zero_iff.1 h0
  subst hy
  refine ⟨v,w,run_append_owned_none w base 181 ty 184 i0 2 Tryz.underlying181 hi v n xs hown,?_,jDg _ _,.inl rfl⟩
  simpa [enV] using hown
 ·obtain ⟨v',w',h1,h2,h3,_,h5⟩:=run_append_own_at (P:=Tryz.prog) w base 181 ty 184 i0 (.agg #[.string ⟨#[]⟩,.pointer none]) 2 24 Tryz.underlying181 hi hz0 hz1 hz2 rfl (by decide) v n xs hown ⟨g,0,none⟩ ys.length cap (enV ys) (jGa ys) (hx.cells rfl) (jWy ys) (by unfold maxLen;omega) (by omega) hb
  exact ⟨v',w',h1,h2,h3,h5⟩
end
end Go.Proofs.YtkfeafmpaodagaaGreatDoor
