/- Hashes of texts under a seed, over numbers and lists alone: nothing of the program is run here. Conditions: where numbers are spoken of, they are below 2 to the 64th. Filters over lists of places alone: nothing of the program is run here. Conditions: none. Sketches over lists of counters alone: nothing of the program is run here. Conditions: none. Judges over lists of places and counters alone: nothing of the program is run here. Conditions: none. Slabs over lists of chunks alone: nothing of the program is run here. Conditions: none. Lists of keys in two rows, over lists alone: nothing of the program is run here. Conditions: none. Tables of texts over lists alone: nothing of the program is run here. Conditions: none. -/
import Derived.Laws.Bits64
import Derived.KernelRfl
import Derived.Test.YtkfeafmpaodagaaGreatDoorG00Joined
namespace Go.Proofs.YtkfeafmpaodagaaGreatDoor
set_option maxHeartbeats 16000000
section
def xsh (s n : Nat) : Nat:=n ^^^ n / 2 ^ s
def mul (c n : Nat) : Nat:=n * c % 18446744073709551616
def jIt (n : Nat) : Nat:=xsh 31 (mul 10723151780598845931 (xsh 27 (mul 13787848793156543929 (xsh 30 n))))
def jP2 (h : Nat) (c : UInt8) : Nat:=mul 1099511628211 (h ^^^ c.toNat)
def jJq (h : Nat) (l : List UInt8) : Nat:=l.foldl jP2 h
def ofN (seed : Nat) (l : List UInt8) : Nat:=jIt (jJq (jIt seed) l)
theorem xor_lt {a b : Nat} (ha : a < 18446744073709551616) (hb : b < 18446744073709551616) : a ^^^ b < 18446744073709551616:=by
 have h : a ^^^ b < 2 ^ 64:=Nat.xor_lt_two_pow (by omega) (by omega)
 omega
theorem xsh_lt (s : Nat) {n : Nat} (h : n < 18446744073709551616) : xsh s n < 18446744073709551616 :=
 xor_lt h (Nat.lt_of_le_of_lt (Nat.div_le_self _ _) h)
theorem jSx (c n : Nat) : mul c n < 18446744073709551616:=Nat.mod_lt _ (by decide)
theorem jYx (n : Nat) : jIt n < 18446744073709551616:=xsh_lt _ (jSx _ _)
theorem kBr (h : Nat) (c : UInt8) : jP2 h c < 18446744073709551616:=jSx _ _
theorem kNv (c : UInt8) : c.toNat < 18446744073709551616:=Nat.lt_of_lt_of_le c.toNat_lt (by decide)
theorem jP8 (seed : Nat) (l : List UInt8) : ofN seed l < 18446744073709551616:=jYx _
theorem jQ6 (s S n : Nat) (hS : S = 2 ^ s) (h : n < 18446744073709551616) : bits .xor .u64 (n : Int) ((n : Int) / (S : Int)) = ((xsh s n : Nat) : Int):=by
 rw [xorShift_u64 n S h,hS]
 rfl
theorem jR0 (c n : Nat) : IntKind.u64.wrap ((n : Int) * (c : Int)) = ((mul c n : Nat) : Int):=by
 rw [IntKind.wrap_u64]
 obtain ⟨m,hm⟩ : ∃ m,m = n * c:=⟨_,rfl⟩
 have h1 : (n : Int) * (c : Int) = (m : Int):=by rw [hm,Int.natCast_mul]
 unfold mul
 rw [h1,← hm]
 omega
theorem kLs (h c : Nat) (hh : h < 18446744073709551616) (hc : c < 18446744073709551616) : bits .xor .u64 (h : Int) (c : Int) = ((h ^^^ c : Nat) : Int):=bits_xor_u64_nat h c hh hc
end
section
def jB0 (seed : Nat) (l : List UInt8) (k : Nat) : Nat:=ofN ((seed + k) % 18446744073709551616) l % 512
def pls (seed : Nat) (l : List UInt8) : List Nat:=[jB0 seed l 0,jB0 seed l 1,jB0 seed l 2]
def jDz (S ps : List Nat) : Bool:=ps.all fun p => decide (p ∈ S)
def jJd (S : List Nat) (p : Nat) : List Nat:=if p ∈ S then S else S ++ [p]
def jDs (S ps : List Nat) : List Nat:=ps.foldl jJd S
def jOs (S : List Nat) : Prop:=S.Nodup ∧ ∀ p ∈ S,p < 512
theorem jR3 (seed : Nat) (l : List UInt8) (k : Nat) : jB0 seed l k < 512:=Nat.mod_lt _ (by decide)
theorem pls_lt (seed : Nat) (l : List UInt8) : ∀ p ∈ pls seed l,p < 512:=by
 intro p hp
 unfold pls at hp
 simp only [List.mem_cons,List.not_mem_nil,or_false] at hp
 rcases hp with rfl | rfl | rfl <;> exact jR3 _ _ _
theorem jXq (S ps : List Nat) : jDz S ps = true ↔ ∀ p ∈ ps,p ∈ S:=by
 unfold jDz
 simp [List.all_eq_true]
theorem jTl (S : List Nat) (p q : Nat) : q ∈ jJd S p ↔ q ∈ S ∨ q = p:=by
 unfold jJd
 split
 ·rename_i h
  constructor
  ·exact .inl
  ·rintro (h1 | rfl)
   ·exact h1
   ·exact h
 ·simp
theorem kB0 : ∀ (ps S : List Nat) (q : Nat),q ∈ jDs S ps ↔ q ∈ S ∨ q ∈ ps
 | [],S,q => by simp [jDs]
 | p :: ps,S,q => by
  show q ∈ jDs (jJd S p) ps ↔ _
  rw [kB0 ps,jTl]
  simp [or_assoc]
theorem jUc {S : List Nat} (h : S.Nodup) (p : Nat) : (jJd S p).Nodup:=by
 unfold jJd
 split
 ·exact h
 ·rename_i hn
  rw [List.nodup_append]
  refine ⟨h,by simp,?_⟩
  intro a ha b hb e
  simp only [List.mem_singleton] at hb
  subst hb
  subst e
  exact hn ha
theorem jUj : ∀ (ps : List Nat) {S : List Nat},S.Nodup → (jDs S ps).Nodup
 | [],_,h => h
 | p :: ps,_,h => jUj ps (jUc h p)
theorem jOc : jOs []:=⟨List.nodup_nil,fun p hp => by cases hp⟩
theorem jW6 {S : List Nat} (h : jOs S) (seed : Nat) (l : List UInt8) : jOs (jDs S (pls seed l)) :=
 ⟨jUj _ h.1,fun p hp => ((kB0 _ _ _).1 hp).elim (h.2 p) (pls_lt _ _ p)⟩
theorem kA4 : ∀ {S T : List Nat},S.Nodup → (∀ p ∈ S,p ∈ T) → S.length ≤ T.length
 | [],_,_,_ => Nat.zero_le _
 | x :: S,T,hn,h => by
  rw [List.nodup_cons] at hn
  have hx : x ∈ T:=h x List.mem_cons_self
  have h1:=kA4 (S:=S) (T:=T.erase x) hn.2 fun p hp => (List.mem_erase_of_ne (fun (e : p = x) => hn.1 (e ▸ hp))).2 (h p (List.mem_cons_of_mem _ hp))
  rw [List.length_erase_of_mem hx] at h1
  have h2 : 0 < T.length:=List.length_pos_of_mem hx
  rw [List.length_cons]
  omega
theorem jZf {S : List Nat} (h : jOs S) : S.length ≤ 512:=by
 have:=kA4 h.1 (T:=List.range 512) fun p hp => List.mem_range.2 (h.2 p hp)
 rwa [List.length_range] at this
end
section
def plc (sd : Nat) (l : List UInt8) (i : Nat) : Nat:=i * 64 + ofN ((sd + i) % 18446744073709551616) l % 64
def jDu (sd : Nat) (l : List UInt8) : List Nat:=[plc sd l 0,plc sd l 1,plc sd l 2,plc sd l 3]
def inc (C : List Nat) (p : Nat) : List Nat:=if C.getD p 0 < 15 then C.set p (C.getD p 0 + 1) else C
def jGd (C ps : List Nat) : List Nat:=ps.foldl inc C
abbrev St:=List Nat × Nat
def jOf : St:=(List.replicate 256 0,0)
def jDh (st : St) : Bool:=decide (640 ≤ st.2 + 1)
def addK (sd : Nat) (st : St) (l : List UInt8) : St:=if jDh st then ((jGd st.1 (jDu sd l)).map (· / 2),320) else (jGd st.1 (jDu sd l),st.2 + 1)
def cnt (C ps : List Nat) : Nat:=ps.foldl (fun n p => min n (C.getD p 0)) 15
structure jLl (st : St) : Prop where
 len : st.1.length = 256
 le : ∀ c ∈ st.1,c ≤ 15
 age : st.2 < 640
theorem kOv (sd : Nat) (l : List UInt8) (i : Nat) : i * 64 ≤ plc sd l i ∧ plc sd l i < i * 64 + 64:=by
 unfold plc
 have:=Nat.mod_lt (ofN ((sd + i) % 18446744073709551616) l) (show 0 < 64 by decide)
 omega
theorem kBq (C : List Nat) (p : Nat) : (inc C p).length = C.length:=by
 unfold inc
 split
 ·rw [List.length_set]
 ·rfl
theorem jRe : ∀ (ps C : List Nat),(jGd C ps).length = C.length
 | [],_ => rfl
 | p :: ps,C => (jRe ps (inc C p)).trans (kBq C p)
theorem kFo (C : List Nat) (p : Nat) (hC : ∀ c ∈ C,c ≤ 15) : ∀ c ∈ inc C p,c ≤ 15:=by
 intro c hc
 unfold inc at hc
 split at hc
 ·rcases List.mem_or_eq_of_mem_set hc with h | h
  ·exact hC c h
  ·omega
 ·exact hC c hc
theorem jNc : ∀ (ps C : List Nat),(∀ c ∈ C,c ≤ 15) → ∀ c ∈ jGd C ps,c ≤ 15
 | [],_,h => h
 | p :: ps,C,h => jNc ps (inc C p) (kFo C p h)
theorem jK8 {C : List Nat} (h : ∀ c ∈ C,c ≤ 15) (q : Nat) : C.getD q 0 ≤ 15:=by
 by_cases hq : q < C.length
 ·simp only [List.getD,List.getElem?_eq_getElem hq,Option.getD_some]
  exact h _ (List.getElem_mem hq)
 ·simp [List.getD,List.getElem?_eq_none (Nat.le_of_not_lt hq)]
theorem jXo (C : List Nat) (q : Nat) : (C.map (· / 2)).getD q 0 = C.getD q 0 / 2:=by
 simp only [List.getD,List.getElem?_map]
 cases C[q]? <;> rfl
theorem jSq : jLl jOf:=⟨List.length_replicate,fun c hc => by rw [List.eq_of_mem_replicate hc];omega,by decide⟩
theorem jMl {st : St} (h : jLl st) (sd : Nat) (l : List UInt8) : jLl (addK sd st l):=by
 unfold addK
 by_cases hh : jDh st = true
 ·rw [if_pos hh]
  refine ⟨by rw [List.length_map,jRe];exact h.len,fun c hc => ?_,show 320 < 640 by decide⟩
  obtain ⟨x,hx,rfl⟩:=List.mem_map.1 hc
  have:=jNc _ _ h.le x hx
  omega
 ·rw [if_neg hh]
  refine ⟨by rw [jRe];exact h.len,jNc _ _ h.le,?_⟩
  simp only [jDh,decide_eq_true_eq] at hh
  show st.2 + 1 < 640
  omega
theorem jY7 : ∀ (ps C : List Nat) (n : Nat),ps.foldl (fun n p => min n (C.getD p 0)) n ≤ n ∧ (∀ p ∈ ps,ps.foldl (fun n p => min n (C.getD p 0)) n ≤ C.getD p 0) ∧ ∀ m,m ≤ n → (∀ p ∈ ps,m ≤ C.getD p 0) → m ≤ ps.foldl (fun n p => min n (C.getD p 0)) n
 | [],_,n => ⟨Nat.le_refl _,(fun p hp => (List.not_mem_nil hp).elim),fun m hm _ => hm⟩
 | x :: ps,C,n => by
  obtain ⟨h1,h2,h3⟩:=jY7 ps C (min n (C.getD x 0))
  refine ⟨Nat.le_trans h1 (Nat.min_le_left _ _),fun p hp => ?_,fun m hm hall => h3 m (Nat.le_min.2 ⟨hm,hall x List.mem_cons_self⟩) fun p hp => hall p (List.mem_cons_of_mem _ hp)⟩
  rcases List.mem_cons.1 hp with rfl | hp
  ·exact Nat.le_trans h1 (Nat.min_le_right _ _)
  ·exact h2 p hp
theorem kIq (C ps : List Nat) : cnt C ps ≤ 15:=(jY7 ps C 15).1
end
section
abbrev Js:=List Nat × St
def sd1 (sd : Nat) : Nat:=(sd + 1) % 18446744073709551616
def jIn : Js:=([],jOf)
def hadJ (sd : Nat) (j : Js) (l : List UInt8) : Bool:=jDz j.1 (pls sd l)
def jKt (sd : Nat) (j : Js) (l : List UInt8) : Js :=
 if hadJ sd j l then (if jDh j.2 then ([],addK (sd1 sd) j.2 l) else (jDs j.1 (pls sd l),addK (sd1 sd) j.2 l)) else (jDs j.1 (pls sd l),j.2)
def jCt (sd : Nat) (j : Js) (l : List UInt8) : Nat:=cnt j.2.1 (jDu (sd1 sd) l) + (if hadJ sd j l then 1 else 0)
structure jMw (j : Js) : Prop where
 set : jOs j.1
 st : jLl j.2
theorem kAj : jMw jIn:=⟨jOc,jSq⟩
theorem kB5 {j : Js} (h : jMw j) (sd : Nat) (l : List UInt8) : jMw (jKt sd j l):=by
 unfold jKt
 split
 ·split
  ·exact ⟨jOc,jMl h.st _ l⟩
  ·exact ⟨jW6 h.set sd l,jMl h.st _ l⟩
 ·exact ⟨jW6 h.set sd l,h.st⟩
end
section
abbrev Ck:=Int × Int
def jAu (k : Int) : Int:=if k = 0 then 64 else if k = 1 then 128 else if k = 2 then 256 else if k = 3 then 512 else if k = 4 then 1024 else if k = 5 then 2048 else 0
def jA1 (size : Int) : Nat:=if size ≤ 64 then 0 else if size ≤ 128 then 1 else if size ≤ 256 then 2 else if size ≤ 512 then 3 else if size ≤ 1024 then 4 else if size ≤ 2048 then 5 else 0
def jBo (size : Int) : Int:=if size ≤ 2048 then 0 else 4
structure Sb where
 bud : Int
 inn : List Ck
 gone : List Ck
 made : List Nat
def jEt (bud : Int) : Sb:=⟨bud,[],[],[0,0,0,0,0,0]⟩
def jDp (l : List Ck) : Int:=(l.map fun c => jAu c.1).sum
def jBn (st : Sb) : Int:=jDp st.inn
def jBh (st : Sb) (k : Nat) : Ck:=((st.gone.filter fun c => decide (c.1 = (k : Int))).getLast?).getD ((k : Int),((st.made.getD k 0 : Nat) : Int))
def jB1 (st : Sb) (size : Int) : Int:=if size ≤ 2048 then (if jBn st + jAu (jA1 size) ≤ st.bud then 0 else 5) else 4
def jBp (st : Sb) (size : Int) : Ck:=if jB1 st size = 0 then jBh st (jA1 size) else (0,0)
def jC7 (st : Sb) (k : Nat) (c : Ck) : Sb:=if c ∈ st.gone then ⟨st.bud,st.inn ++ [c],st.gone.erase c,st.made⟩ else ⟨st.bud,st.inn ++ [c],st.gone,st.made.set k (st.made.getD k 0 + 1)⟩
def takeS (st : Sb) (size : Int) : Sb:=if jB1 st size = 0 then jC7 st (jA1 size) (jBh st (jA1 size)) else st
def jJc (st : Sb) (c : Ck) : Int:=if c ∈ st.inn then 0 else 1
def jBj (st : Sb) (c : Ck) : Sb:=if c ∈ st.inn then ⟨st.bud,st.inn.erase c,st.gone ++ [c],st.made⟩ else st
def jB3 (st : Sb) (size less : Int) : Bool:=decide (size ≤ 2048 ∧ 0 ≤ less ∧ less ≤ jBn st ∧ jBn st - less + jAu (jA1 size) ≤ st.bud)
structure jDo (st : Sb) : Prop where
 nodup : (st.inn ++ st.gone).Nodup
 len : st.made.length = 6
 cls : ∀ c ∈ st.inn ++ st.gone,0 ≤ c.1 ∧ c.1 < 6 ∧ 0 ≤ c.2 ∧ c.2 < ((st.made.getD c.1.toNat 0 : Nat) : Int)
 bud : st.inn = [] ∨ jBn st ≤ st.bud
structure Small (st : Sb) (n : Nat) : Prop where
 inn : st.inn.length ≤ n
 gone : st.gone.length ≤ n
 made : ∀ m ∈ st.made,m ≤ n
theorem jDk (k : Int) : 0 ≤ jAu k:=by
 unfold jAu
 repeat' split
 all_goals omega
theorem jGr (k : Int) : jAu k ≤ 2048:=by
 unfold jAu
 repeat' split
 all_goals omega
theorem jNd (size : Int) : jA1 size < 6:=by
 unfold jA1
 repeat' split
 all_goals omega
theorem jR1 (l m : List Ck) : jDp (l ++ m) = jDp l + jDp m:=by simp [jDp]
theorem jI4 (c : Ck) (l : List Ck) : jDp (c :: l) = jAu c.1 + jDp l:=by simp [jDp]
theorem jRi (c : Ck) : jDp [c] = jAu c.1:=by simp [jDp]
theorem jM0 : ∀ l : List Ck,0 ≤ jDp l
 | [] => by simp [jDp]
 | c :: l => by
  have h1:=jM0 l
  have h2:=jDk c.1
  rw [jI4]
  omega
theorem jT1 : ∀ l : List Ck,jDp l ≤ 2048 * l.length
 | [] => by simp [jDp]
 | c :: l => by
  have h1:=jT1 l
  have h2:=jGr c.1
  rw [jI4,List.length_cons]
  omega
theorem jLt : ∀ (l : List Ck) (c : Ck),c ∈ l → jDp (l.erase c) = jDp l - jAu c.1
 | [],c,h => by cases h
 | d :: l,c,h => by
  by_cases e : d = c
  ·subst e
   rw [List.erase_cons_head,jI4]
   omega
  ·rw [List.erase_cons_tail (by simpa using e),jI4,jI4,jLt l c ((List.mem_cons.1 h).resolve_left fun h => e h.symm)]
   omega
theorem jH5 (st : Sb) (k : Nat) : (jBh st k ∈ st.gone ∧ (jBh st k).1 = (k : Int)) ∨ ((∀ c ∈ st.gone,c.1 ≠ (k : Int)) ∧ jBh st k = ((k : Int),((st.made.getD k 0 : Nat) : Int))):=by
 unfold jBh
 cases h : (st.gone.filter fun c => decide (c.1 = (k : Int))).getLast? with
 | some c =>
  have:=List.mem_of_getLast? h
  rw [List.mem_filter] at this
  exact .inl ⟨this.1,of_decide_eq_true this.2⟩
 | none =>
  rw [List.getLast?_eq_none_iff,List.filter_eq_nil_iff] at h
  exact .inr ⟨fun c hc e => h c hc (decide_eq_true e),rfl⟩
theorem jIu (st : Sb) (k : Nat) : (jBh st k).1 = (k : Int):=by
 rcases jH5 st k with h | h
 ·exact h.2
 ·rw [h.2]
theorem jXh {st : Sb} (h : jDo st) (k : Nat) : ¬ jBh st k ∈ st.inn:=by
 intro hm
 rcases jH5 st k with ⟨hg,_⟩ | ⟨_,e⟩
 ·exact (List.nodup_append.1 h.nodup).2.2 _ hm _ hg rfl
 ·have:=(h.cls _ (List.mem_append_left _ hm)).2.2.2
  rw [e] at this
  simp at this
theorem jMb (l : List Nat) (i j x : Nat) (h : i < l.length) : (l.set i x).getD j 0 = if i = j then x else l.getD j 0:=by
 simp only [List.getD,List.getElem?_set]
 by_cases e : i = j
 ·subst e
  simp [h]
 ·simp [e]
theorem jQw (bud : Int) : jDo (jEt bud):=⟨List.nodup_nil,rfl,fun _ hc => (List.not_mem_nil hc).elim,.inl rfl⟩
theorem jNw {l : List Ck} {c : Ck} (h : c ∈ l) : ([c] ++ l.erase c).Perm l:=(List.perm_cons_erase h).symm
theorem jUg {st : Sb} (h : jDo st) (size : Int) : jDo (takeS st size):=by
 unfold takeS
 by_cases he : jB1 st size = 0
 ·rw [if_pos he]
  have hb : jBn st + jAu (jA1 size) ≤ st.bud:=by
   unfold jB1 at he
   split at he
   ·split at he
    ·assumption
    ·omega
   ·omega
  have hk:=jNd size
  have hc1:=jIu st (jA1 size)
  have hnew:=jXh h (jA1 size)
  have hnc:=jH5 st (jA1 size)
  generalize jBh st (jA1 size) = c at *
  generalize jA1 size = k at *
  have hused : jDp (st.inn ++ [c]) ≤ st.bud:=by
   rw [jR1,jRi,hc1]
   exact hb
  unfold jC7
  by_cases hg : c ∈ st.gone
  ·rw [if_pos hg]
   have hp : (st.inn ++ [c] ++ st.gone.erase c).Perm (st.inn ++ st.gone):=by
    rw [List.append_assoc]
    exact List.Perm.append_left _ (jNw hg)
   exact ⟨hp.nodup_iff.2 h.nodup,h.len,fun d hd => h.cls d (hp.mem_iff.1 hd),.inr hused⟩
  ·rw [if_neg hg]
   obtain ⟨hno,ec⟩:=hnc.resolve_left fun x => hg x.1
   have hfree : ¬ c ∈ st.inn ++ st.gone:=fun hm => (List.mem_append.1 hm).elim hnew hg
   refine ⟨?_,by rw [List.length_set];exact h.len,fun d hd => ?_,.inr hused⟩
   ·have hp : (st.inn ++ [c] ++ st.gone).Perm (c :: (st.inn ++ st.gone)):=by
     rw [List.append_assoc]
     exact List.perm_middle
    rw [hp.nodup_iff]
    exact List.nodup_cons.2 ⟨hfree,h.nodup⟩
   ·rw [jMb _ _ _ _ (by rw [h.len];exact hk)]
    have hd2 : d = c ∨ d ∈ st.inn ++ st.gone:=by
     simp only [List.mem_append,List.mem_singleton] at hd ⊢
     rcases hd with (hd | hd) | hd
     ·exact .inr (.inl hd)
     ·exact .inl hd
     ·exact .inr (.inr hd)
    rcases hd2 with rfl | hd2
    ·rw [hc1,ec]
     simp
     omega
    ·obtain ⟨a1,a2,a3,a4⟩:=h.cls d hd2
     refine ⟨a1,a2,a3,?_⟩
     by_cases e : k = d.1.toNat
     ·rw [if_pos e,e]
      omega
     ·rw [if_neg e]
      exact a4
 ·rw [if_neg he]
  exact h
theorem jVs {st : Sb} (h : jDo st) (c : Ck) : jDo (jBj st c):=by
 unfold jBj
 by_cases hm : c ∈ st.inn
 ·rw [if_pos hm]
  have hp : (st.inn.erase c ++ (st.gone ++ [c])).Perm (st.inn ++ st.gone):=by
   refine List.Perm.trans ?_ (List.Perm.append_right st.gone (jNw hm))
   rw [← List.append_assoc]
   exact (List.perm_append_comm).trans (by simp)
  refine ⟨hp.nodup_iff.2 h.nodup,h.len,fun d hd => h.cls d (hp.mem_iff.1 hd),?_⟩
  rcases h.bud with e | e
  ·rw [e] at hm
   cases hm
  ·refine .inr ?_
   show jDp (st.inn.erase c) ≤ st.bud
   rw [jLt _ _ hm]
   have:=jDk c.1
   have e2 : jBn st = jDp st.inn:=rfl
   omega
 ·rw [if_neg hm]
  exact h
theorem jId {st : Sb} {n : Nat} (h : Small st n) : 0 ≤ jBn st ∧ jBn st ≤ 2048 * n:=by
 have h1:=jM0 st.inn
 have h2:=jT1 st.inn
 have h3:=h.inn
 have e : jBn st = jDp st.inn:=rfl
 omega
theorem jH4 {st : Sb} {n m : Nat} (h : Small st n) (hm : n ≤ m) : Small st m:=⟨Nat.le_trans h.inn hm,Nat.le_trans h.gone hm,fun x hx => Nat.le_trans (h.made x hx) hm⟩
theorem kC9 {st : Sb} {n : Nat} (h : Small st n) (c : Ck) : Small (jBj st c) (n + 1):=by
 unfold jBj
 split
 ·exact ⟨Nat.le_succ_of_le (Nat.le_trans (List.length_erase_le) h.inn),by rw [List.length_append];exact Nat.succ_le_succ h.gone,fun m hm => Nat.le_succ_of_le (h.made m hm)⟩
 ·exact jH4 h (Nat.le_succ n)
end
section
structure Sr where
 most : Int
 trial : List ByteArray
 safe : List ByteArray
def jIg (most : Int) : Sr:=⟨most,[],[]⟩
def jA3 (st : Sr) : List ByteArray:=st.trial ++ st.safe
def jCu (l : List ByteArray) (k : ByteArray) : Bool:=l.any fun x => decide (x = k)
def jAx (l : List ByteArray) (k : ByteArray) : List ByteArray:=l.filter fun x => decide (x ≠ k)
def jMd (st : Sr) (k : ByteArray) : Int:=if jCu (jA3 st) k then 7 else 0
def jJ9 (st : Sr) (k : ByteArray) : Sr:=if jCu (jA3 st) k then st else ⟨st.most,st.trial ++ [k],st.safe⟩
def jJu (st : Sr) (k : ByteArray) : Int:=if jCu (jA3 st) k then 0 else 6
def jHf (st : Sr) (k : ByteArray) : Sr:=⟨st.most,jAx st.trial k,jAx st.safe k⟩
def jGs (st : Sr) : Sr:=if st.most < st.safe.length then (match st.safe with | [] => st | x :: l => ⟨st.most,st.trial ++ [x],l⟩) else st
def jE9 (st : Sr) (k : ByteArray) : Sr:=if jCu (jA3 st) k then jGs ⟨st.most,jAx st.trial k,jAx st.safe k ++ [k]⟩ else st
def jDe (st : Sr) (k : ByteArray) : Option ByteArray:=(jA3 st).find? fun x => decide (x ≠ k)
structure jHz (st : Sr) : Prop where
 nodup : (jA3 st).Nodup
 most : (st.safe.length : Int) ≤ max st.most 0
theorem jC5 {l : List ByteArray} {k : ByteArray} : jCu l k = true ↔ k ∈ l:=by simp [jCu]
theorem jKg {l : List ByteArray} {k : ByteArray} : jCu l k = false ↔ ¬ k ∈ l:=by rw [← jC5];simp
theorem jM6 {l : List ByteArray} {k x : ByteArray} : x ∈ jAx l k ↔ x ∈ l ∧ x ≠ k:=by simp [jAx]
theorem jIk (l m : List ByteArray) (k : ByteArray) : jAx (l ++ m) k = jAx l k ++ jAx m k:=by simp [jAx]
theorem jFv {l : List ByteArray} {k : ByteArray} (h : ¬ k ∈ l) : jAx l k = l:=by
 unfold jAx
 rw [List.filter_eq_self]
 intro x hx
 exact decide_eq_true fun e => h (e ▸ hx)
theorem jKj (l : List ByteArray) (k : ByteArray) : (jAx l k).Sublist l:=List.filter_sublist
theorem jJr (l : List ByteArray) (k : ByteArray) : (jAx l k).length ≤ l.length:=(jKj l k).length_le
theorem kBh (st : Sr) (k : ByteArray) : jA3 (jHf st k) = jAx (jA3 st) k:=(jIk _ _ _).symm
theorem kOt {st : Sr} {k : ByteArray} (h : ¬ k ∈ jA3 st) : jHf st k = st:=by
 unfold jHf
 rw [jFv fun h' => h (List.mem_append_left _ h'),jFv fun h' => h (List.mem_append_right _ h')]
theorem jQn (most : Int) : jHz (jIg most):=⟨List.nodup_nil,by simp [jIg];omega⟩
theorem jVm {st : Sr} (h : jHz st) (k : ByteArray) : jHz (jJ9 st k):=by
 unfold jJ9
 split
 ·exact h
 ·rename_i hk
  rw [jC5] at hk
  refine ⟨?_,h.most⟩
  show (st.trial ++ [k] ++ st.safe).Nodup
  have hp : (st.trial ++ [k] ++ st.safe).Perm (k :: jA3 st):=by
   rw [List.append_assoc]
   exact List.perm_middle
  exact hp.nodup_iff.2 (List.nodup_cons.2 ⟨hk,h.nodup⟩)
theorem jWv {st : Sr} (h : jHz st) (k : ByteArray) : jHz (jHf st k):=by
 refine ⟨?_,?_⟩
 ·rw [kBh]
  exact (jKj _ k).nodup h.nodup
 ·have:=jJr st.safe k
  have h2:=h.most
  show ((jAx st.safe k).length : Int) ≤ _
  show _ ≤ max st.most 0
  omega
theorem kFa (st : Sr) : jA3 (jGs st) = jA3 st:=by
 unfold jGs
 split
 ·split
  ·rfl
  ·rename_i x l e
   unfold jA3
   rw [e]
   simp
 ·rfl
theorem kAz {st : Sr} {k : ByteArray} (h : k ∈ jA3 st) : jA3 (jE9 st k) = jAx (jA3 st) k ++ [k]:=by
 unfold jE9
 rw [if_pos (jC5.2 h),kFa]
 show jAx st.trial k ++ (jAx st.safe k ++ [k]) = _
 rw [← List.append_assoc,← jIk]
 rfl
theorem jYd {st : Sr} (h : jHz st) (k : ByteArray) : jHz (jE9 st k):=by
 by_cases hk : k ∈ jA3 st
 ·refine ⟨?_,?_⟩
  ·rw [kAz hk,List.nodup_append]
   refine ⟨(jKj _ k).nodup h.nodup,by simp,?_⟩
   intro a ha b hb e
   rw [List.mem_singleton] at hb
   exact (jM6.1 ha).2 (e.trans hb)
  ·have:=jJr st.safe k
   have h2:=h.most
   unfold jE9
   rw [if_pos (jC5.2 hk)]
   unfold jGs
   split
   ·rename_i hlt
    split
    ·rename_i e
     simp at e
    ·rename_i x l e
     have hl:=congrArg List.length e
     simp at hl hlt ⊢
     omega
   ·rename_i hlt
    simp at hlt ⊢
    omega
 ·unfold jE9
  rw [if_neg (fun h => hk (jC5.1 h))]
  exact h
theorem kD3 (st : Sr) : (jGs st).most = st.most:=by
 unfold jGs
 split
 ·split <;> rfl
 ·rfl
theorem kJy (st : Sr) (k : ByteArray) : (jE9 st k).most = st.most:=by
 unfold jE9
 split
 ·rw [kD3]
 ·rfl
theorem jXl {st : Sr} {k : ByteArray} (h : k ∈ jA3 st) : jMd st k = 7 ∧ jJ9 st k = st:=by
 unfold jMd jJ9
 rw [if_pos (jC5.2 h),if_pos (jC5.2 h)]
 exact ⟨rfl,rfl⟩
theorem jP5 {st : Sr} {k : ByteArray} (h : ¬ k ∈ jA3 st) : jMd st k = 0 ∧ jJ9 st k = ⟨st.most,st.trial ++ [k],st.safe⟩:=by
 unfold jMd jJ9
 rw [if_neg (fun h' => h (jC5.1 h')),if_neg (fun h' => h (jC5.1 h'))]
 exact ⟨rfl,rfl⟩
theorem jXn {st : Sr} {k : ByteArray} (h : k ∈ jA3 st) : jJu st k = 0:=by
 unfold jJu
 rw [if_pos (jC5.2 h)]
theorem jQd {st : Sr} {k : ByteArray} (h : ¬ k ∈ jA3 st) : jJu st k = 6 ∧ jHf st k = st:=by
 unfold jJu
 rw [if_neg (fun h' => h (jC5.1 h'))]
 exact ⟨rfl,kOt h⟩
theorem jTu {st : Sr} {k : ByteArray} (h : ¬ k ∈ jA3 st) : jE9 st k = st:=by
 unfold jE9
 rw [if_neg (fun h' => h (jC5.1 h'))]
end
section
def ltB : List UInt8 → List UInt8 → Bool
 | _,[] => false
 | [],_ :: _ => true
 | a :: l,b :: m => if a < b then true else if b < a then false else ltB l m
abbrev Kv:=ByteArray × Int
def ltK (a b : ByteArray) : Bool:=ltB a.data.toList b.data.toList
theorem jSz : ∀ l,ltB l l = false
 | [] => rfl
 | a :: l => by simp [ltB,UInt8.lt_irrefl,jSz l]
theorem jUn : ∀ {l m n},ltB l m = true → ltB m n = true → ltB l n = true
 | _,[],_,h,_ => by cases ‹List UInt8› <;> simp [ltB] at h
 | _,b :: m,[],_,h => by simp [ltB] at h
 | [],b :: m,c :: n,_,_ => by simp [ltB]
 | a :: l,b :: m,c :: n,h1,h2 => by
  unfold ltB at h1 h2 ⊢
  by_cases hab : a < b
  ·by_cases hbc : b < c
   ·simp [UInt8.lt_trans hab hbc]
   ·by_cases hcb : c < b
    ·simp [hbc,hcb] at h2
    ·have : b = c:=UInt8.le_antisymm (UInt8.not_lt.1 hcb) (UInt8.not_lt.1 hbc)
     subst this
     simp [hab]
  ·by_cases hba : b < a
   ·simp [hab,hba] at h1
   ·have : a = b:=UInt8.le_antisymm (UInt8.not_lt.1 hba) (UInt8.not_lt.1 hab)
    subst this
    simp [hab] at h1
    by_cases hac : a < c
    ·simp [hac]
    ·by_cases hca : c < a
     ·simp [hac,hca] at h2
     ·simp [hac,hca] at h2 ⊢
      exact jUn h1 h2
theorem jU4 : ∀ {l m},ltB l m = false → ltB m l = false → l = m
 | [],[],_,_ => rfl
 | [],b :: m,h,_ => by simp [ltB] at h
 | a :: l,[],_,h => by simp [ltB] at h
 | a :: l,b :: m,h1,h2 => by
  unfold ltB at h1 h2
  by_cases hab : a < b
  ·simp [hab] at h1
  ·by_cases hba : b < a
   ·simp [hba] at h2
   ·have : a = b:=UInt8.le_antisymm (UInt8.not_lt.1 hba) (UInt8.not_lt.1 hab)
    subst this
    simp [hab] at h1 h2
    rw [jU4 h1 h2]
theorem jH7 (a : ByteArray) : ltK a a = false:=jSz _
theorem jHv {a b c : ByteArray} (h1 : ltK a b = true) (h2 : ltK b c = true) : ltK a c = true:=jUn h1 h2
theorem jI0 {a b : ByteArray} (h1 : ltK a b = false) (h2 : ltK b a = false) : a = b:=ByteArray.ext (Array.toList_inj.1 (jU4 h1 h2))
theorem jEz {a b : ByteArray} (h : ltK a b = true) : a ≠ b:=fun e => by rw [e,jH7] at h;cases h
theorem jI5 {a b : ByteArray} (h : ltK a b = true) : ltK b a = false:=by
 cases h2 : ltK b a with
 | false => rfl
 | true => exact absurd (jHv h h2) (by rw [jH7];simp)
def jCl (l : List Kv) : Prop:=l.Pairwise fun a b => ltK a.1 b.1 = true
def jEs (k : ByteArray) (v : Int) : List Kv → List Kv
 | [] => [(k,v)]
 | (a,x) :: l => if a = k then (k,v) :: l else if ltK k a then (k,v) :: (a,x) :: l else (a,x) :: jEs k v l
def jG0 (k : ByteArray) (l : List Kv) : List Kv:=l.filter fun p => decide (p.1 ≠ k)
def jEh (k : ByteArray) (l : List Kv) : Option Int:=(l.find? fun p => decide (p.1 = k)).map (·.2)
theorem jKd {k : ByteArray} {v : Int} {p : Kv} : ∀ {l : List Kv},jCl l → (p ∈ jEs k v l ↔ p = (k,v) ∨ (p ∈ l ∧ p.1 ≠ k))
 | [],_ => by simp [jEs]
 | (a,x) :: l,h => by
  unfold jCl at h
  rw [List.pairwise_cons] at h
  obtain ⟨h1,h2⟩:=h
  unfold jEs
  by_cases e : a = k
  ·rw [if_pos e]
   subst e
   simp only [List.mem_cons]
   constructor
   ·rintro (rfl | hp)
    ·exact .inl rfl
    ·exact .inr ⟨.inr hp,(jEz (h1 p hp)).symm⟩
   ·rintro (rfl | ⟨rfl | hp,hne⟩)
    ·exact .inl rfl
    ·exact absurd rfl hne
    ·exact .inr hp
  ·rw [if_neg e]
   by_cases hk : ltK k a = true
   ·rw [if_pos hk]
    simp only [List.mem_cons]
    constructor
    ·rintro (rfl | rfl | hp)
     ·exact .inl rfl
     ·exact .inr ⟨.inl rfl,e⟩
     ·exact .inr ⟨.inr hp,(jEz (jHv hk (h1 p hp))).symm⟩
    ·rintro (rfl | ⟨rfl | hp,_⟩)
     ·exact .inl rfl
     ·exact .inr (.inl rfl)
     ·exact .inr (.inr hp)
   ·rw [if_neg hk]
    simp only [List.mem_cons]
    rw [jKd h2]
    constructor
    ·rintro (rfl | rfl | ⟨hp,hne⟩)
     ·exact .inr ⟨.inl rfl,e⟩
     ·exact .inl rfl
     ·exact .inr ⟨.inr hp,hne⟩
    ·rintro (rfl | ⟨rfl | hp,hne⟩)
     ·exact .inr (.inl rfl)
     ·exact .inl rfl
     ·exact .inr (.inr ⟨hp,hne⟩)
theorem jH3 {k : ByteArray} {v : Int} : ∀ {l : List Kv},jCl l → jCl (jEs k v l)
 | [],_ => by simp [jEs,jCl]
 | (a,x) :: l,h => by
  have h0:=h
  unfold jCl at h
  rw [List.pairwise_cons] at h
  obtain ⟨h1,h2⟩:=h
  unfold jEs
  by_cases e : a = k
  ·rw [if_pos e]
   subst e
   exact List.pairwise_cons.2 ⟨h1,h2⟩
  ·rw [if_neg e]
   by_cases hk : ltK k a = true
   ·rw [if_pos hk]
    refine List.pairwise_cons.2 ⟨fun p hp => ?_,h0⟩
    rcases List.mem_cons.1 hp with rfl | hp
    ·exact hk
    ·exact jHv hk (h1 p hp)
   ·rw [if_neg hk]
    have hka : ltK a k = true:=by
     cases h3 : ltK a k with
     | true => rfl
     | false => exact absurd (jI0 h3 (by simpa using hk)) e
    refine List.pairwise_cons.2 ⟨fun p hp => ?_,jH3 h2⟩
    rcases (jKd h2).1 hp with rfl | ⟨hp,_⟩
    ·exact hka
    ·exact h1 p hp
theorem kDk {k : ByteArray} {l : List Kv} (h : jCl l) : jCl (jG0 k l):=h.sublist List.filter_sublist
theorem jOb : ∀ {l m : List Kv},jCl l → jCl m → (∀ p,p ∈ l ↔ p ∈ m) → l = m
 | [],[],_,_,_ => rfl
 | [],q :: m,_,_,h => absurd ((h q).2 List.mem_cons_self) (by simp)
 | p :: l,[],_,_,h => absurd ((h p).1 List.mem_cons_self) (by simp)
 | p :: l,q :: m,hl,hm,h => by
  unfold jCl at hl hm
  rw [List.pairwise_cons] at hl hm
  have e : p = q:=by
   rcases List.mem_cons.1 ((h p).1 List.mem_cons_self) with e | h1
   ·exact e
   ·rcases List.mem_cons.1 ((h q).2 List.mem_cons_self) with e | h2
    ·exact e.symm
    ·have:=jI5 (hm.1 p h1)
     rw [hl.1 q h2] at this
     cases this
  subst e
  rw [jOb hl.2 hm.2 fun r => ?_]
  constructor
  ·intro hr
   rcases List.mem_cons.1 ((h r).1 (List.mem_cons_of_mem _ hr)) with e | h3
   ·subst e;have:=hl.1 r hr;rw [jH7] at this;cases this
   ·exact h3
  ·intro hr
   rcases List.mem_cons.1 ((h r).2 (List.mem_cons_of_mem _ hr)) with e | h3
   ·subst e;have:=hm.1 r hr;rw [jH7] at this;cases this
   ·exact h3
end
end Go.Proofs.YtkfeafmpaodagaaGreatDoor
