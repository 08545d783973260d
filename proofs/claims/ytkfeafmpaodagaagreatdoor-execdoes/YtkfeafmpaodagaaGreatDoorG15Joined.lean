/- The contracts of package slru, out of the program's own text: New, Add, Hit, Remove, Len, Protected. Conditions: none. The contracts of package slru: Add, Hit, Remove. Conditions: none. The keys of a list, one by one, as package slru goes over them itself. Conditions: none. What All and Victim of package slru share: its own keys, told one by one. Conditions: none. Victim of package slru, and all its contracts. Conditions: none. -/
import Derived.Test.YtkfeafmpaodagaaGreatDoorG14Joined
import Derived.Test.YtkfeafmpaodagaaGreatDoorG11Joined
import Derived.StringKeys
import Derived.Test.YtkfeafmpaodagaaGreatDoorG01Joined
import Derived.Sort.BigQuietIn
import Derived.Sort.CutIn
import Derived.Maps.OwnIn
namespace Go.Proofs.YtkfeafmpaodagaaGreatDoor
set_option maxHeartbeats 16000000
set_option maxRecDepth 100000
section
open Go.RowKit Go.Maps
def jHq (v : Value) : Option (DataW Value × List MemPlace):=some (.held v,[])
def jIe (s : ByteArray) : Lit:=.string s.data.toList
theorem jLc : Keyed Tryz.prog 9:=string_keyed Tryz.underlying9
theorem jO7 {s : ByteArray} (h : s.size ≤ maxLen) : keyOf Tryz.prog 9 (.string s) = some (jIe s):=Go.WideMaps.keyOf_string_mk Tryz.underlying9 h
theorem jNp {s t : ByteArray} (h : jIe s = jIe t) : s = t:=by
 unfold jIe at h
 cases s;cases t
 simp at h
 rw [h]
theorem jZh (s : ByteArray) : WideAt.IsKeyLit (jIe s):=by unfold jIe;trivial
theorem kGl (w : World) : (zeroValue 106).run Tryz.prog w = .ok (.pointer none) w:=by kernel_rfl
abbrev jKp (bm : Nat) (D : DataW Value) : jAd:=jTj Tryz.prog 9 jHq bm D
def ptr (k : Nat) : Value:=.pointer (some ⟨k,0,none⟩)
structure jIr (D : DataW Value) (l : List Nk) : Prop where
 has : ∀ s : ByteArray,Maps.has D (jIe s) = jCu (jAs l) s
 find : ∀ x ∈ l,∀ z,D.atKey (jIe x.2) z = .held (ptr x.1)
 size : Maps.size D = l.length
 isMap : IsMap D
theorem jVq {w : World} {bm : Nat} {D : DataW Value} {s : ByteArray} (h : (jKp bm D).q w) (hs : s.size ≤ maxLen) : ∃ v,(Instr.lookup 105 (.map (some bm)) (.string s) true).run Tryz.prog w = .ok (.tuple #[v,.bool (Maps.has D (jIe s))]) w ∧ D.atKey (jIe s) (.held (.pointer none)) = .held v:=by
 have h' : w.ownsMap Tryz.prog 9 jHq bm (Maps.size D) D:=h
 obtain ⟨v,ps,hrun,hv⟩:=h'.look_ok jLc Tryz.underlying105 (kGl w) (zd:=.held (.pointer none)) (zp:=[]) rfl (jO7 hs)
 refine ⟨v,hrun,?_⟩
 unfold jHq at hv
 simp at hv
 exact hv.1.symm
theorem jRj {w : World} {bm : Nat} {D : DataW Value} {l : List Nk} (h : (jKp bm D).q w) (T : jIr D l) {x : Nk} (hx : x ∈ l) (hs : x.2.size ≤ maxLen) : (Instr.lookup 105 (.map (some bm)) (.string x.2) true).run Tryz.prog w = .ok (.tuple #[.pointer (some ⟨x.1,0,none⟩),.bool true]) w:=by
 obtain ⟨v,h1,h2⟩:=jVq h hs
 rw [T.find x hx] at h2
 rw [h1,T.has,jC5.2 (List.mem_map_of_mem hx)]
 cases h2
 rfl
theorem jRg {w : World} {bm : Nat} {D : DataW Value} {l : List Nk} (h : (jKp bm D).q w) (T : jIr D l) {s : ByteArray} (hx : ¬ s ∈ jAs l) (hs : s.size ≤ maxLen) : (Instr.lookup 105 (.map (some bm)) (.string s) true).run Tryz.prog w = .ok (.tuple #[.pointer none,.bool false]) w:=by
 obtain ⟨v,h1,h2⟩:=jVq h hs
 have hn : Maps.has D (jIe s) = false:=(T.has s).trans (jKg.2 hx)
 rw [atKey_of_not_has hn] at h2
 rw [h1,hn]
 cases h2
 rfl
theorem kIc : jIr (.map []) []:=⟨fun _ => rfl,fun x hx => (by cases hx),rfl,isMap_empty⟩
theorem kGd {D : DataW Value} {l l' : List Nk} {x : Nk} (T : jIr D l) (hD : Tidy D) (hx : ¬ x.2 ∈ jAs l) (hp : l'.Perm (x :: l)) : jIr (D.put (jIe x.2) (.held (ptr x.1))) l':=by
 have hk : ∀ s,jCu (jAs l') s = (decide (x.2 = s) || jCu (jAs l) s):=fun s => by
  have : (jAs l').any (fun y => decide (y = s)) = (jAs (x :: l)).any (fun y => decide (y = s)):=(hp.map Prod.snd).any_eq
  unfold jCu
  rw [this]
  simp [jAs]
 refine ⟨fun s => ?_,fun y hy z => ?_,?_,T.isMap.put _ _⟩
 ·rw [hk]
  by_cases e : x.2 = s
  ·subst e
   rw [has_put_same T.isMap (jZh _)]
   simp
  ·rw [has_put_other (fun h => e (jNp h).symm),T.has]
   simp [e]
 ·rcases List.mem_cons.1 (hp.subset hy) with rfl | hy
  ·exact atKey_put_same T.isMap (jZh _) _ _
  ·have : y.2 ≠ x.2:=fun e => hx (e ▸ List.mem_map_of_mem hy)
   rw [atKey_put_other (fun h => this (jNp h))]
   exact T.find y hy z
 ·rw [size_put hD,T.has,jKg.2 hx,hp.length_eq,T.size]
  rfl
theorem jW4 {D : DataW Value} {l l' : List Nk} {x : Nk} (T : jIr D l) (hD : Tidy D) (hn : (jAs l).Nodup) (hp : l.Perm (x :: l')) : jIr (D.del (jIe x.2)) l':=by
 have hn' : (jAs (x :: l')).Nodup:=(hp.map Prod.snd).nodup_iff.1 hn
 unfold jAs at hn'
 rw [List.map_cons,List.nodup_cons] at hn'
 have hk : ∀ s,jCu (jAs l) s = (decide (x.2 = s) || jCu (jAs l') s):=fun s => by
  have : (jAs l).any (fun y => decide (y = s)) = (jAs (x :: l')).any (fun y => decide (y = s)):=(hp.map Prod.snd).any_eq
  unfold jCu
  rw [this]
  simp [jAs]
 have hx : jCu (jAs l') x.2 = false:=jKg.2 hn'.1
 refine ⟨fun s => ?_,fun y hy z => ?_,?_,T.isMap.del _⟩
 ·by_cases e : x.2 = s
  ·subst e
   rw [has_del_same,hx]
  ·rw [has_del_other (fun h => e (jNp h).symm),T.has,hk]
   simp [e]
 ·have : y.2 ≠ x.2:=fun e => hn'.1 (e ▸ List.mem_map_of_mem hy)
  rw [atKey_del_other (fun h => this (jNp h))]
  exact T.find y (hp.symm.subset (List.mem_cons_of_mem _ hy)) z
 ·have h1:=size_del (k:=jIe x.2) hD
  have h2:=hp.length_eq
  rw [T.has,T.size,hk] at h1
  simp at h1 h2
  omega
theorem jUy {D : DataW Value} {l l' : List Nk} (T : jIr D l) (hp : l.Perm l') : jIr D l':=by
 refine ⟨fun s => ?_,fun y hy => T.find y (hp.symm.subset hy),T.size.trans hp.length_eq,T.isMap⟩
 rw [T.has]
 exact (hp.map Prod.snd).any_eq
def jEf (m : Int) (b bm : Nat) (D : DataW Value) (nd : Nat → Array Value) (tn sn : List Nk) : jAd :=
 (jAn b (.cells (jC0 m bm tn sn) 110)).and ((jHm (ids (tn ++ sn)) nd).and ((jKp bm D).and jAd.emp))
structure Fine (b : Nat) (D : DataW Value) (nd : Nat → Array Value) (tn sn : List Nk) (st : Sr) : Prop where
 lk : Lk b nd (ids (tn ++ sn)) tn sn
 told : jIr D (tn ++ sn)
 trial : st.trial = jAs tn
 safe : st.safe = jAs sn
 short : ∀ x ∈ tn ++ sn,x.2.size ≤ maxLen
 good : jHz st
 most : I64 st.most
theorem Fine.all {b : Nat} {D : DataW Value} {nd : Nat → Array Value} {tn sn : List Nk} {st : Sr} (h : Fine b D nd tn sn st) : jA3 st = jAs (tn ++ sn):=by
 unfold jA3 jAs
 rw [h.trial,h.safe,List.map_append]
theorem Fine.len {b : Nat} {D : DataW Value} {nd : Nat → Array Value} {tn sn : List Nk} {st : Sr} (h : Fine b D nd tn sn st) : (jA3 st).length = tn.length + sn.length:=by
 rw [h.all]
 simp [jAs]
def Ls0 (w : World) (b : Nat) (own : Nat → Prop) (st : Sr) : Prop :=
 ∃ bm D nd tn sn,own = (jEf (max st.most 0) b bm D nd tn sn).own ∧ (jEf (max st.most 0) b bm D nd tn sn).q w ∧ (∀ k,own k → k < w.heap.size) ∧ Fine b D nd tn sn st
theorem Ls0.law {w : World} {b : Nat} {own : Nat → Prop} {st : Sr} (h : Ls0 w b own st) : ∃ bm D nd tn sn,Fine b D nd tn sn st ∧ jAb own w w (jEf (max st.most 0) b bm D nd tn sn):=by
 obtain ⟨bm,D,nd,tn,sn,rfl,h2,h3,h4⟩:=h
 exact ⟨bm,D,nd,tn,sn,h4,jAb.start h2 h3⟩
theorem Ls0.of {F : Nat → Prop} {w0 w : World} {b bm : Nat} {D : DataW Value} {nd : Nat → Array Value} {tn sn : List Nk} {st : Sr} {m : Int} (hm : m = max st.most 0) (L : jAb F w0 w (jEf m b bm D nd tn sn)) (G : Fine b D nd tn sn st) : ∃ own',Ls0 w b own' st ∧ Gr F w0 w ∧ jBm w0 F own':=by
 subst hm
 exact ⟨_,⟨bm,D,nd,tn,sn,rfl,L.q,fun k hk => (L.lt k hk).1,G⟩,L.gr,L.grew⟩
theorem jAb.fewer {F : Nat → Prop} {w0 w : World} {A R : jAd} {I I' : List Nat} {nd : Nat → Array Value} (L : jAb F w0 w (A.and ((jHm I nd).and R))) (h : ∀ k ∈ I',k ∈ I) : jAb F w0 w (A.and ((jHm I' nd).and R)) :=
 (L.rot.weak1 (A':=jHm I' nd) (fun hq k hk => hq k (h k hk)) fun k hk => h k hk).rot
theorem jAb.more {F : Nat → Prop} {w0 w : World} {A R : jAd} {I : List Nat} {nd : Nat → Array Value} {k : Nat} {cs : Array Value} (L : jAb F w0 w ((jAn k (.cells cs 202)).and (A.and ((jHm I nd).and R)))) : jAb F w0 w (A.and ((jHm (k :: I) (fun j => if j = k then cs else nd j)).and R)):=by
 refine L.weak (fun h => ?_) fun j hj => ?_
 ·obtain ⟨hb,⟨hA,⟨hN,hR,hNR⟩,hA2⟩,hx⟩:=h
  refine ⟨hA,⟨fun j hj => ?_,hR,?_⟩,?_⟩
  ·show _ = some (Obj.cells (if j = k then cs else nd j) _)
   by_cases e : j = k
   ·subst e
    rw [if_pos rfl]
    exact hb
   ·rw [if_neg e]
    exact hN j ((List.mem_cons.1 hj).resolve_left e)
  ·intro j hj hr
   rcases List.mem_cons.1 hj with e | hj
   ·exact hx j e (.inr (.inr hr))
   ·exact hNR j hj hr
  ·rintro j hA' (hj | hr)
   ·rcases List.mem_cons.1 hj with e | hj
    ·exact hx j e (.inl hA')
    ·exact hA2 j hA' (.inl hj)
   ·exact hA2 j hA' (.inr hr)
 ·rcases hj with hj | hj | hj
  ·exact .inr (.inl hj)
  ·rcases List.mem_cons.1 hj with e | hj
   ·exact .inl e
   ·exact .inr (.inr (.inl hj))
  ·exact .inr (.inr (.inr hj))
theorem jAb.map3 {F : Nat → Prop} {w0 w : World} {A B C R : jAd} (L : jAb F w0 w (A.and (B.and (C.and R)))) : jAb F w0 w (C.and (A.and (B.and R))):=L.rin.rot
theorem jAb.unmap3 {F : Nat → Prop} {w0 w : World} {A B C R : jAd} (L : jAb F w0 w (C.and (A.and (B.and R)))) : jAb F w0 w (A.and (B.and (C.and R))):=L.rot.rin
theorem kKw (most : Int) (hm : I64 most) (w : World) : Calls Tryz.prog 24 #[.int .i64 most] w fun e w' => ∃ b own,e = .returned (.pointer (some ⟨b,0,none⟩)) ∧ (∀ k,own k → w.heap.size ≤ k) ∧ Ls0 w' b own (jIg most) ∧ w.grownBy w' none:=by
 have L1:=(jAb.bare w).mapNew (P:=Tryz.prog) (k:=9) (R:=jHq)
 have L2 : jAb (fun _ => False) w (w.alloc (.map #[] 0)) ((jHm [] (fun _ => #[])).and ((jKp w.heap.size (.map [])).and jAd.emp)) :=
  ⟨L1.gr,⟨fun k hk => (by cases hk),L1.q,fun k hk => (by cases hk)⟩,fun k hk => hk.elim (fun h => by cases h) (L1.lt k)⟩
 have L3:=L2.box (.cells (jC0 (max most 0) w.heap.size [] []) 110)
 rw [World.size_alloc] at L3
 have hmm:=@run_makeMap Tryz.prog
 have fin : ∀ m,m = max most 0 → jAb (fun _ => False) w ((w.alloc (.map #[] 0)).alloc (.cells (jC0 m w.heap.size [] []) 110)) (jEf m (w.heap.size + 1) w.heap.size (.map []) (fun _ => #[]) [] []) → ∃ own,(∀ k,own k → w.heap.size ≤ k) ∧ Ls0 ((w.alloc (.map #[] 0)).alloc (.cells (jC0 m w.heap.size [] []) 110)) (w.heap.size + 1) own (jIg most) ∧ w.grownBy ((w.alloc (.map #[] 0)).alloc (.cells (jC0 m w.heap.size [] []) 110)) none:=fun m em LL => by
  obtain ⟨own',h1,h2,h3⟩:=Ls0.of (st:=jIg most) (tn:=[]) (sn:=[]) em LL ⟨⟨fun pre x post e => by simp at e,fun pre x post e => by simp at e,List.nodup_nil,fun y hy => by cases hy⟩,kIc,rfl,rfl,fun x hx => (by cases hx),jQn most,hm⟩
  exact ⟨own',fun k hk => (h3 k hk).elim (fun h => h.elim) id,h1,h2.to (fun k h => h.elim)⟩
 by_cases h0 : 0 ≤ most
 ·have ex : max most 0 = most:=by omega
  rw [ex] at L3
  have HF:=jAa (fin most ex.symm L3)
  have EX:=jAa ex
  clear fin L1 L2 L3 ex
  go_enter Tryz.func24,Tryz.ntmps24
  go_wp2
  go_ret
  obtain ⟨own,h1,h2,h3⟩:=HF.out
  first | exact ⟨_,own,rfl,h1,h2,h3⟩ | (rw [EX.out];exact ⟨_,own,rfl,h1,h2,h3⟩)
 ·have ex : max most 0 = 0:=by omega
  have h1 : most < 0:=by omega
  rw [ex] at L3
  have HF:=jAa (fin 0 ex.symm L3)
  have EX:=jAa ex
  clear fin L1 L2 L3 ex h0
  go_enter Tryz.func24,Tryz.ntmps24
  go_wp2
  go_ret
  obtain ⟨own,h1,h2,h3⟩:=HF.out
  first | exact ⟨_,own,rfl,h1,h2,h3⟩ | (rw [EX.out];exact ⟨_,own,rfl,h1,h2,h3⟩)
end
section
open Go.RowKit Go.Maps
section
variable {F : Nat → Prop} {w0 w : World} {b : Nat} {m : Int} {bm : Nat} {I : List Nat} {nd : Nat → Array Value} {tn sn A B : List Nk} {D : DataW Value} {st : Sr}
theorem jOw {own : Nat → Prop} (h : Ls0 w b own st) : ∃ own',Ls0 w b own' st ∧ Gr own w w ∧ jBm w own own':=⟨own,h,Gr.refl _ _,fun _ hk => .inl hk⟩
theorem Lst.fine (H : Lst F w0 w b m bm I nd tn sn ((jKp bm D).and jAd.emp)) (hm : m = max st.most 0) (T : jIr D (tn ++ sn)) (ht : st.trial = jAs tn) (hs : st.safe = jAs sn) (hk : ∀ x ∈ tn ++ sn,x.2.size ≤ maxLen) (hg : jHz st) (hi : I64 st.most) : ∃ own',Ls0 w b own' st ∧ Gr F w0 w ∧ jBm w0 F own':=by
 have L : jAb F w0 w (jEf m b bm D nd tn sn):=jAb.fewer H.row (fun k hk => by
  obtain ⟨y,hy,rfl⟩:=List.mem_map.1 hk
  exact H.lk.sub y hy)
 exact Ls0.of hm L ⟨⟨H.lk.t,H.lk.s,H.lk.nodup,fun y hy => List.mem_map_of_mem hy⟩,T,ht,hs,hk,hg,hi⟩
end
theorem Ls0.lst {w : World} {b : Nat} {own : Nat → Prop} {st : Sr} (h : Ls0 w b own st) (hn : (jA3 st).length ≤ maxLen) : ∃ bm D nd tn sn,Fine b D nd tn sn st ∧ Lst own w w b (max st.most 0) bm (ids (tn ++ sn)) nd tn sn ((jKp bm D).and jAd.emp):=by
 obtain ⟨bm,D,nd,tn,sn,G,L⟩:=h.law
 exact ⟨bm,D,nd,tn,sn,G,L,G.lk,by rw [← G.len];exact hn⟩
theorem Fine.keysNodup {b : Nat} {D : DataW Value} {nd : Nat → Array Value} {tn sn : List Nk} {st : Sr} (h : Fine b D nd tn sn st) : (jAs (tn ++ sn)).Nodup:=by
 rw [← h.all]
 exact h.good.nodup
theorem kM9 {b k : Nat} {nd : Nat → Array Value} {I : List Nat} {tn sn : List Nk} {s : ByteArray} (h : Lk b nd I tn sn) (hk : ∀ j ∈ I,j ≠ k) : Lk b (fun j => if j = k then #[.string s,.pointer none,.pointer none,.pointer none] else nd j) (k :: I) tn sn ∧ jLo (fun j => if j = k then #[.string s,.pointer none,.pointer none,.pointer none] else nd j) (k :: I) tn sn (k,s) :=
 ⟨⟨jH2 h.t fun y hy => if_neg (hk _ (h.sub y (List.mem_append_left _ hy))),jH2 h.s fun y hy => if_neg (hk _ (h.sub y (List.mem_append_right _ hy))),h.nodup,fun y hy => List.mem_cons_of_mem _ (h.sub y hy)⟩,⟨⟨_,_,_,if_pos rfl⟩,List.mem_cons_self,fun y hy => hk _ (h.sub y hy)⟩⟩
theorem kL2 {w : World} {b : Nat} {own : Nat → Prop} {st : Sr} (h : Ls0 w b own st) (hn : (jA3 st).length < maxLen) (s : ByteArray) (hs : s.size ≤ maxLen) :
  Calls Tryz.prog 194 #[.pointer (some ⟨b,0,none⟩),.string s] w fun e w' => e = .returned (.int .i64 (jMd st s)) ∧ ∃ own',Ls0 w' b own' (jJ9 st s) ∧ Gr own w w' ∧ jBm w own own':=by
 obtain ⟨bm,D,nd,tn,sn,G,H⟩:=h.lst (Nat.le_of_lt hn)
 have c1:=H.row.head (i:=1) (v:=.map (some bm)) rfl
 by_cases hk : s ∈ jA3 st
 ·have hk':=hk
  rw [G.all] at hk'
  obtain ⟨x,hx,rfl⟩:=List.mem_map.1 hk'
  have r1:=jRj H.row.q.2.1.2.1.1 G.told hx hs
  have HS:=jAa (jOw h)
  have HK:=jAa hk
  clear H G h hk' hk
  go_enter Tryz.func194,Tryz.ntmps194
  go_wp2
  go_ret
  obtain ⟨e1,e2⟩:=jXl HK.out
  rw [e1,e2]
  exact ⟨rfl,HS.out⟩
 ·have hk':=hk
  rw [G.all] at hk'
  have r1:=jRg H.row.q.2.1.2.1.1 G.told hk' hs
  have L1:=(H.row.box (.cells #[.string s,.pointer none,.pointer none,.pointer none] 202)).more
  have c2:=jBi.head L1 (i:=1) (v:=.map (some bm)) rfl
  obtain ⟨lk1,lo1⟩:=kM9 (k:=w.heap.size) (s:=s) H.lk (fun j hj e => by have:=(H.row.lt j (.inr (.inl hj))).1;omega)
  have hown : (w.alloc (.cells #[.string s,.pointer none,.pointer none,.pointer none] 202)).ownsMap Tryz.prog 9 jHq bm (Maps.size D) D:=L1.q.2.1.2.1.1
  have hsz : Maps.size D < maxLen:=by rw [G.told.size,List.length_append,← G.len];exact hn
  have hlt : tn.length + sn.length < maxLen:=by rw [← G.len];exact hn
  have HT:=jAa (World.ownsMap.tidy hown jLc)
  have HG:=jAa G
  have HK:=jAa hk
  have HK':=jAa hk'
  have HL:=jAa lk1
  have HO:=jAa lo1
  clear H G h hk hk' lk1 lo1
  go_enter Tryz.func194,Tryz.ntmps194
  go_wp2_with (first
   | (at_mapUpdate;refine wpList_mapUpdate_in _ rfl _ _ _ 105 rfl 9 106 jLc Tryz.underlying105 jHq bm _ D rfl hown hsz _ (ptr w.heap.size) (jIe s) rfl rfl (jO7 hs) (.held (ptr w.heap.size)) [] rfl ?_;intro w2 hown2 hturn2;have L2:=(L1.map3.mapTurn hown2 hturn2).unmap3)
   | (go_at_call 133;refine (kBl (x:=(w.heap.size,s)) ⟨L2,HL.out,Nat.le_of_lt hlt⟩ HO.out hlt).mono ?_;rintro e w3 ⟨rfl,nd3,H3⟩))
  go_ret
  obtain ⟨e1,e2⟩:=jP5 HK.out
  rw [e1,e2]
  refine ⟨rfl,?_⟩
  have hp : (tn ++ [(w.heap.size,s)] ++ sn).Perm ((w.heap.size,s) :: (tn ++ sn)):=by
   rw [List.append_assoc]
   exact List.perm_middle
  refine H3.fine (st:=⟨st.most,st.trial ++ [s],st.safe⟩) rfl (kGd (x:=(w.heap.size,s)) HG.out.told HT.out HK'.out hp) ?_ HG.out.safe ?_ ?_ HG.out.most
  ·rw [HG.out.trial]
   simp [jAs]
  ·intro y hy
   rcases List.mem_cons.1 (hp.subset hy) with rfl | hy
   ·exact hs
   ·exact HG.out.short y hy
  ·have:=jVm HG.out.good s
   rw [e2] at this
   exact this
def jL4 (F : Nat → Prop) (w0 w' : World) (b : Nat) (m : Int) (bm : Nat) (I : List Nat) (nd' : Nat → Array Value) (tn sn : List Nk) (y : Nk) (R : jAd) : Prop :=
 if m < ((y :: sn).length : Int) then Lst F w0 w' b m bm I nd' (tn ++ [y]) sn R else Lst F w0 w' b m bm I nd' tn (y :: sn) R
theorem kDe {F : Nat → Prop} {w0 w' : World} {b : Nat} {m : Int} {bm : Nat} {I : List Nat} {nd' : Nat → Array Value} {tn sn : List Nk} {y : Nk} {R : jAd} {n : Nat} (hn : (y :: sn).length = n) (hm : m < (n : Int)) (h : Lst F w0 w' b m bm I nd' (tn ++ [y]) ([] ++ sn) R) : jL4 F w0 w' b m bm I nd' tn sn y R:=by
 unfold jL4
 rw [hn,if_pos hm]
 exact h
theorem kH4 {F : Nat → Prop} {w0 w' : World} {b : Nat} {m : Int} {bm : Nat} {I : List Nat} {nd' : Nat → Array Value} {tn sn : List Nk} {y : Nk} {R : jAd} {n : Nat} (hn : (y :: sn).length = n) (hm : (n : Int) ≤ m) (h : Lst F w0 w' b m bm I nd' tn (y :: sn) R) : jL4 F w0 w' b m bm I nd' tn sn y R:=by
 unfold jL4
 rw [hn,if_neg (by omega)]
 exact h
theorem jY4 {F : Nat → Prop} {w0 w : World} {b x bm : Nat} {m : Int} {I : List Nat} {tn sn : List Nk} {y : Nk} {R : jAd} {s : ByteArray} (c1 : w.cell? ⟨b,1,none⟩ = some (.map (some bm)))
  (r1 : (Instr.lookup 105 (.map (some bm)) (.string s) true).run Tryz.prog w = .ok (.tuple #[.pointer (some ⟨x,0,none⟩),.bool true]) w)
  (hM : Calls Tryz.prog 93 #[.pointer (some ⟨x,0,none⟩),.pointer (some ⟨b,5,none⟩)] w fun e w' => e = .returned (.tuple #[]) ∧ ∃ nd',Lst F w0 w' b m bm I nd' tn (y :: sn) R) :
  Calls Tryz.prog 56 #[.pointer (some ⟨b,0,none⟩),.string s] w fun e w' => e = .returned (.int .i64 0) ∧ ∃ nd',jL4 F w0 w' b m bm I nd' tn sn y R:=by
 obtain ⟨n,hn⟩ : ∃ n,(y :: sn).length = n:=⟨_,rfl⟩
 by_cases hlt : m < (n : Int)
 ·have HC:=jAa hn
  go_enter Tryz.func56,Tryz.ntmps56
  go_upto_region 5 with (go_at_call 93;refine hM.mono ?_;rintro e w1 ⟨rfl,nd1,H1⟩)
  have d7:=H1.row.head (i:=7) (v:=.int .i64 ((y :: sn).length : Nat)) rfl
  have d0:=H1.row.head (i:=0) (v:=.int .i64 m) rfl
  rw [hn] at d7
  go_quiet (fail)
  clear d7 d0
  go_upto_region 6 with fail
  have H1' : Lst F w0 (w1.drewN nq) b m bm I nd1 tn (y :: sn) R:=⟨H1.row.drewN nq,H1.lk,H1.small⟩
  clear H1
  generalize w1.drewN nq = w2 at *
  have H2 : Lst F w0 w2.drew b m bm I nd1 tn (y :: sn) R:=⟨H1'.row.drew,H1'.lk,H1'.small⟩
  have d5:=H2.row.head (i:=5) (v:=.pointer (some ⟨y.1,0,none⟩)) rfl
  clear H1'
  go_region_with (go_at_call 93;refine (kE8 (A:=[]) H2).mono ?_;rintro e w3 ⟨rfl,nd3,H3⟩)
  all_goals
   go_wp2
   go_ret
   exact ⟨rfl,nd3,kDe HC.out hlt H3⟩
 ·have HC:=jAa hn
  have hle : (n : Int) ≤ m:=Int.not_lt.1 hlt
  clear hlt
  go_enter Tryz.func56,Tryz.ntmps56
  go_upto_region 5 with (go_at_call 93;refine hM.mono ?_;rintro e w1 ⟨rfl,nd1,H1⟩)
  have d7:=H1.row.head (i:=7) (v:=.int .i64 ((y :: sn).length : Nat)) rfl
  have d0:=H1.row.head (i:=0) (v:=.int .i64 m) rfl
  rw [hn] at d7
  go_quiet (fail)
  clear d7 d0
  go_wp2
  go_ret
  exact ⟨rfl,nd1,kH4 HC.out hle ⟨H1.row.drewN _,H1.lk,H1.small⟩⟩
theorem jWr {A B sn : List Nk} {x : Nk} (h : (jAs (A ++ x :: B ++ sn)).Nodup) : jAx (jAs (A ++ x :: B)) x.2 = jAs (A ++ B) ∧ jAx (jAs sn) x.2 = jAs sn:=by
 unfold jAs at h
 rw [List.map_append,List.nodup_append] at h
 exact ⟨jYw h.1,jFv fun hm => h.2.2 x.2 (by simp) x.2 hm rfl⟩
theorem jU5 {A B tn : List Nk} {x : Nk} (h : (jAs (tn ++ (A ++ x :: B))).Nodup) : jAx (jAs (A ++ x :: B)) x.2 = jAs (A ++ B) ∧ jAx (jAs tn) x.2 = jAs tn:=by
 unfold jAs at h
 rw [List.map_append,List.nodup_append] at h
 exact ⟨jYw h.2.1,jFv fun hm => h.2.2 x.2 hm x.2 (by simp) rfl⟩
theorem kBa {F : Nat → Prop} {w0 w : World} {b bm : Nat} {I : List Nat} {tn sn : List Nk} {y : Nk} {D : DataW Value} {st : Sr} {nd : Nat → Array Value} {l : List Nk} (hl : (tn ++ y :: sn).Perm l) (T : jIr D l) (hk : ∀ x ∈ l,x.2.size ≤ maxLen) (hi : I64 st.most) {s : ByteArray} (hg : jHz (jE9 st s)) (e : jE9 st s = jGs ⟨st.most,jAs tn,jAs (y :: sn)⟩)
  (h : jL4 F w0 w b (max st.most 0) bm I nd tn sn y ((jKp bm D).and jAd.emp)) : ∃ own',Ls0 w b own' (jE9 st s) ∧ Gr F w0 w ∧ jBm w0 F own':=by
 unfold jL4 at h
 have hm:=kJy st s
 have hlen : ((jAs (y :: sn)).length : Int) = ((y :: sn).length : Int):=by simp [jAs]
 by_cases hc : max st.most 0 < ((y :: sn).length : Int)
 ·rw [if_pos hc] at h
  have e2 : jE9 st s = ⟨st.most,jAs (tn ++ [y]),jAs sn⟩:=by
   rw [e]
   unfold jGs
   rw [if_pos (show st.most < ((jAs (y :: sn)).length : Int) by rw [hlen];omega)]
   simp [jAs]
  have hp : l.Perm (tn ++ [y] ++ sn):=by
   refine hl.symm.trans ?_
   rw [List.append_assoc]
   exact List.Perm.refl _
  refine h.fine (by rw [hm]) (jUy T hp) (by rw [e2]) (by rw [e2]) (fun x hx => hk x (hp.symm.subset hx)) hg (by rw [hm];exact hi)
 ·rw [if_neg hc] at h
  have e2 : jE9 st s = ⟨st.most,jAs tn,jAs (y :: sn)⟩:=by
   rw [e]
   unfold jGs
   have h1 : 1 ≤ ((y :: sn).length : Int):=by simp;omega
   rw [if_neg (show ¬ st.most < ((jAs (y :: sn)).length : Int) by rw [hlen];omega)]
  refine h.fine (by rw [hm]) (jUy T hl.symm) (by rw [e2]) (by rw [e2]) (fun x hx => hk x (hl.subset hx)) hg (by rw [hm];exact hi)
theorem jUh (l : List Nk) (x : Nk) : ∃ y r,l ++ [x] = y :: r:=by
 cases l with
 | nil => exact ⟨x,[],rfl⟩
 | cons a l => exact ⟨a,l ++ [x],rfl⟩
theorem kKm {w : World} {b : Nat} {own : Nat → Prop} {st : Sr} (h : Ls0 w b own st) (hn : (jA3 st).length ≤ maxLen) (s : ByteArray) (hs : s.size ≤ maxLen) :
  Calls Tryz.prog 56 #[.pointer (some ⟨b,0,none⟩),.string s] w fun e w' => e = .returned (.int .i64 (jJu st s)) ∧ ∃ own',Ls0 w' b own' (jE9 st s) ∧ Gr own w w' ∧ jBm w own own':=by
 obtain ⟨bm,D,nd,tn,sn,G,H⟩:=h.lst hn
 have c1:=H.row.head (i:=1) (v:=.map (some bm)) rfl
 by_cases hk : s ∈ jA3 st
 ·have hk':=hk
  rw [G.all] at hk'
  obtain ⟨x,hx,rfl⟩:=List.mem_map.1 hk'
  have r1:=jRj H.row.q.2.1.2.1.1 G.told hx hs
  have hg:=jYd G.good x.2
  have hnd:=G.keysNodup
  have eH : jE9 st x.2 = jGs ⟨st.most,jAx st.trial x.2,jAx st.safe x.2 ++ [x.2]⟩:=by
   unfold jE9
   rw [if_pos (jC5.2 hk)]
  rw [G.trial,G.safe] at eH
  rw [jXn hk]
  rcases List.mem_append.1 hx with ht | ht
  ·obtain ⟨A,B,rfl⟩:=List.append_of_mem ht
   obtain ⟨y,r,er⟩:=jUh sn x
   have hM:=kIs H
   rw [er] at hM
   obtain ⟨k1,k2⟩:=jWr hnd
   have e3 : jAs sn ++ [x.2] = jAs (y :: r):=by rw [← er];simp [jAs]
   rw [k1,k2,e3] at eH
   have hp : (A ++ B ++ y :: r).Perm (A ++ x :: B ++ sn):=by
    rw [← er]
    have h1 : (A ++ B ++ (sn ++ [x])).Perm (x :: (A ++ B ++ sn)):=by rw [← List.append_assoc];exact List.perm_append_comm
    have h2 : (A ++ x :: B ++ sn).Perm (x :: (A ++ B ++ sn)):=by simp
    exact h1.trans h2.symm
   exact (jY4 c1 r1 hM).mono fun e w' ⟨he,nd',h'⟩ => ⟨he,kBa hp G.told G.short G.most hg eH h'⟩
  ·obtain ⟨A,B,rfl⟩:=List.append_of_mem ht
   obtain ⟨y,r,er⟩:=jUh (A ++ B) x
   have hM:=kGz H
   rw [er] at hM
   obtain ⟨k1,k2⟩:=jU5 hnd
   have e3 : jAs (A ++ B) ++ [x.2] = jAs (y :: r):=by rw [← er];simp [jAs]
   rw [k1,k2,e3] at eH
   have hp : (tn ++ y :: r).Perm (tn ++ (A ++ x :: B)):=by
    rw [← er]
    have h1 : (A ++ B ++ [x]).Perm (x :: (A ++ B)):=List.perm_append_comm
    exact List.Perm.append_left tn (h1.trans List.perm_middle.symm)
   exact (jY4 c1 r1 hM).mono fun e w' ⟨he,nd',h'⟩ => ⟨he,kBa hp G.told G.short G.most hg eH h'⟩
 ·have hk':=hk
  rw [G.all] at hk'
  have r1:=jRg H.row.q.2.1.2.1.1 G.told hk' hs
  have HS:=jAa (jOw h)
  rw [(jQd hk).1,jTu hk]
  clear H G h hk' hk
  go_enter Tryz.func56,Tryz.ntmps56
  go_wp2
  go_ret
  exact ⟨rfl,HS.out⟩
theorem jW7 {F : Nat → Prop} {w0 w : World} {b x bm off : Nat} {m : Int} {I : List Nat} {tn sn : List Nk} {D : DataW Value} {s : ByteArray} (hs : s.size ≤ maxLen) (c1 : w.cell? ⟨b,1,none⟩ = some (.map (some bm))) (c2 : w.cell? ⟨x,1,none⟩ = some (.pointer (some ⟨b,off,none⟩)))
  (r1 : (Instr.lookup 105 (.map (some bm)) (.string s) true).run Tryz.prog w = .ok (.tuple #[.pointer (some ⟨x,0,none⟩),.bool true]) w)
  (hM : Calls Tryz.prog 132 #[.pointer (some ⟨b,off,none⟩),.pointer (some ⟨x,0,none⟩)] w fun e w' => e = .returned (.tuple #[]) ∧ ∃ nd',Lst F w0 w' b m bm I nd' tn sn ((jKp bm D).and jAd.emp)) :
  Calls Tryz.prog 142 #[.pointer (some ⟨b,0,none⟩),.string s] w fun e w' => e = .returned (.int .i64 0) ∧ ∃ nd',Lst F w0 w' b m bm I nd' tn sn ((jKp bm (D.del (jIe s))).and jAd.emp):=by
 go_enter Tryz.func142,Tryz.ntmps142
 go_wp2_with (first
  | (go_at_call 132;refine hM.mono ?_;rintro e w1 ⟨rfl,nd1,H1⟩;have c3:=H1.row.head (i:=1) (v:=.map (some bm)) rfl;have hown : w1.ownsMap Tryz.prog 9 jHq bm (Maps.size D) D:=H1.row.q.2.1.2.1.1)
  | (at_delete;refine wpList_delete_own _ rfl _ _ 105 9 rfl 106 jLc Tryz.underlying105 _ bm _ D rfl hown _ _ rfl (jO7 hs) ?_;intro w2 hown2 hturn2;have L2:=(H1.row.map3.mapTurn hown2 hturn2).unmap3))
 go_ret
 exact ⟨rfl,nd1,L2,H1.lk,H1.small⟩
theorem kKy {w : World} {b : Nat} {own : Nat → Prop} {st : Sr} (h : Ls0 w b own st) (hn : (jA3 st).length ≤ maxLen) (s : ByteArray) (hs : s.size ≤ maxLen) :
  Calls Tryz.prog 142 #[.pointer (some ⟨b,0,none⟩),.string s] w fun e w' => e = .returned (.int .i64 (jJu st s)) ∧ ∃ own',Ls0 w' b own' (jHf st s) ∧ Gr own w w' ∧ jBm w own own':=by
 obtain ⟨bm,D,nd,tn,sn,G,H⟩:=h.lst hn
 have c1:=H.row.head (i:=1) (v:=.map (some bm)) rfl
 by_cases hk : s ∈ jA3 st
 ·have hk':=hk
  rw [G.all] at hk'
  obtain ⟨x,hx,rfl⟩:=List.mem_map.1 hk'
  have r1:=jRj H.row.q.2.1.2.1.1 G.told hx hs
  have hg:=jWv G.good x.2
  have hnd:=G.keysNodup
  have hT:=World.ownsMap.tidy (show w.ownsMap Tryz.prog 9 jHq bm (Maps.size D) D from H.row.q.2.1.2.1.1) jLc
  rw [jXn hk]
  rcases List.mem_append.1 hx with ht | ht
  ·obtain ⟨A,B,rfl⟩:=List.append_of_mem ht
   obtain ⟨k1,k2⟩:=jWr hnd
   have hp : (A ++ x :: B ++ sn).Perm (x :: (A ++ B ++ sn)):=by simp
   refine (jW7 hs c1 (H.row.node (H.lk.sub x (by simp)) (by rw [H.lk.t A x B rfl];rfl)) r1 ((jYc H).mono fun e w' ⟨he,nd',h1,_⟩ => ⟨he,nd',h1⟩)).mono fun e w' ⟨he,nd',h'⟩ => ⟨he,?_⟩
   exact h'.fine (st:=jHf st x.2) rfl (jW4 G.told hT hnd hp) (by unfold jHf;rw [G.trial];exact k1) (by unfold jHf;rw [G.safe];exact k2) (fun y hy => G.short y (hp.symm.subset (List.mem_cons_of_mem _ hy))) hg G.most
  ·obtain ⟨A,B,rfl⟩:=List.append_of_mem ht
   obtain ⟨k1,k2⟩:=jU5 hnd
   have hp : (tn ++ (A ++ x :: B)).Perm (x :: (tn ++ (A ++ B))):=by
    rw [← List.append_assoc,← List.append_assoc]
    exact List.perm_middle
   refine (jW7 hs c1 (H.row.node (H.lk.sub x (by simp)) (by rw [H.lk.s A x B rfl];rfl)) r1 ((jQ7 H).mono fun e w' ⟨he,nd',h1,_⟩ => ⟨he,nd',h1⟩)).mono fun e w' ⟨he,nd',h'⟩ => ⟨he,?_⟩
   exact h'.fine (st:=jHf st x.2) rfl (jW4 G.told hT hnd hp) (by unfold jHf;rw [G.trial];exact k2) (by unfold jHf;rw [G.safe];exact k1) (fun y hy => G.short y (hp.symm.subset (List.mem_cons_of_mem _ hy))) hg G.most
 ·have hk':=hk
  rw [G.all] at hk'
  have r1:=jRg H.row.q.2.1.2.1.1 G.told hk' hs
  have HS:=jAa (jOw h)
  rw [(jQd hk).1,(jQd hk).2]
  clear H G h hk' hk
  go_enter Tryz.func142,Tryz.ntmps142
  go_wp2
  go_ret
  exact ⟨rfl,HS.out⟩
end
section
open Go.RowKit Go.Maps Go.Shelf
attribute [local go_sem] Oper.semAt_some
def jKl (tn sn : List Nk) : Nat → List ByteArray
 | 0 => []
 | 1 => jAs tn
 | _ => jAs (tn ++ sn)
def jR7 (l : List Nk) : Value → Nat
 | .pointer (some a) => l.length - (ids l).idxOf a.block
 | _ => 0
theorem jU2 {A B : List Nk} {x : Nk} (h : (ids (A ++ x :: B)).Nodup) : jR7 (A ++ x :: B) (jC1 (x :: B)) = B.length + 1:=by
 have hx : ¬ x.1 ∈ ids A:=fun hm => by
  obtain ⟨y,hy,e⟩:=List.mem_map.1 hm
  exact jF9 h (.inl hy) e
 have e1 : (ids (A ++ x :: B)).idxOf x.1 = A.length:=by
  unfold ids
  rw [List.map_append,List.idxOf_append,if_neg hx,List.map_cons,List.idxOf_cons_self,List.length_map]
  omega
 show (A ++ x :: B).length - (ids (A ++ x :: B)).idxOf x.1 = _
 rw [e1]
 simp
theorem jZm {A B : List Nk} {x : Nk} (h : (ids (A ++ x :: B)).Nodup) : jR7 (A ++ x :: B) (jC1 B) < jR7 (A ++ x :: B) (jC1 (x :: B)):=by
 rw [jU2 h]
 cases B with
 | nil => exact Nat.lt_of_lt_of_le (Nat.lt_succ_self 0) (by simp)
 | cons y B =>
  have e : A ++ x :: y :: B = (A ++ [x]) ++ y :: B:=by simp
  rw [e,jU2 (by rw [← e];exact h)]
  simp
def Kp (own : Nat → Prop) (w V : World) : Prop:=∀ k,own k → k < V.heap.size ∧ V.heap[k]? = w.heap[k]?
theorem Kp.step {own fp : Nat → Prop} {w V V' : World} (h : Kp own w V) (hg : Gr fp V V') (hf : ∀ k,fp k → k < V.heap.size ∧ ¬ own k) : Kp own w V':=fun k hk => ⟨Nat.lt_of_lt_of_le (h k hk).1 hg.size,(hg.block k (h k hk).1 fun hfk => (hf k hfk).2 hk).trans (h k hk).2⟩
theorem kGe (F : Nat → Prop) (w : World) (j : Nat) : Gr F w (w.drewN j):=⟨rfl,rfl,rfl,Nat.le_refl _,fun _ _ _ => rfl⟩
structure RowOf (b : Nat) (nd : Nat → Array Value) (tn sn : List Nk) (m : Int) (bm k off : Nat) (l : List Nk) : Prop where
 index : ∀ w : World,(Instr.index 273 (.agg #[.pointer (some ⟨b,2,none⟩),.pointer (some ⟨b,5,none⟩)]) (.int .i64 k)).run Tryz.prog w = .ok (.pointer (some ⟨b,off,none⟩)) w
 first : (jC0 m bm tn sn)[off]? = some (jC1 l)
 chain : jKh b off nd l
 nodup : (ids l).Nodup
 sub : ∀ y ∈ l,y.1 ∈ ids (tn ++ sn)
 told : jKl tn sn (k + 1) = jKl tn sn k ++ jAs l
 pre : jKl tn sn k ++ jAs l <+: jAs (tn ++ sn)
theorem row_of {b : Nat} {nd : Nat → Array Value} {tn sn : List Nk} {m : Int} {bm k : Nat} (lk : Lk b nd (ids (tn ++ sn)) tn sn) (hk : k < 2) : ∃ off l,RowOf b nd tn sn m bm k off l:=by
 have h : k = 0 ∨ k = 1:=by omega
 rcases h with rfl | rfl
 ·refine ⟨2,tn,⟨fun w => by kernel_rfl,rfl,lk.t,jLq lk.nodup,fun y hy => lk.sub y (List.mem_append_left _ hy),by simp [jKl],?_⟩⟩
  show [] ++ jAs tn <+: _
  unfold jAs
  rw [List.nil_append,List.map_append]
  exact List.prefix_append _ _
 ·refine ⟨5,sn,⟨fun w => by kernel_rfl,rfl,lk.s,jKq lk.nodup,fun y hy => lk.sub y (List.mem_append_right _ hy),by simp [jKl,jAs],?_⟩⟩
  show jAs tn ++ jAs sn <+: _
  unfold jAs
  rw [List.map_append]
  exact List.prefix_refl _
theorem kM6 {p q l : List ByteArray} {x : ByteArray} {r : List ByteArray} {N : Nat} (h : p ++ (q ++ x :: r) <+: l) (hl : l.length = N) : (p ++ q).length < N:=by
 have:=h.length_le
 simp at this ⊢
 omega
theorem kL7 (n : Nat) (hn : 1 ≤ n) {w : World} {b bo bm : Nat} {m : Int} {D : DataW Value} {nd : Nat → Array Value} {tn sn : List Nk} (hq : (jEf m b bm D nd tn sn).q w) (hlt : ∀ k,(jEf m b bm D nd tn sn).own k → k < w.heap.size) (hbo : w.heap[bo]? = some (.cells #[.pointer (some ⟨b,0,none⟩)] 57)) (lk : Lk b nd (ids (tn ++ sn)) tn sn) :
  jW5 Fence.wide n Tryz.prog 227 #[.pointer (some ⟨bo,0,none⟩)] jS5 (fun k => (jEf m b bm D nd tn sn).own k ∨ k = bo) (fun xs => xs = jAs (tn ++ sn)) (fun pre => pre <+: jAs (tn ++ sn)) (tn.length + sn.length) w:=by
 intro l J Jx fp0 W hW hJ hJx hfp hY h0
 have hbl : bo < w.heap.size:=(Array.getElem?_eq_some_iff.1 hbo).1
 have K0 : Kp (fun k => (jEf m b bm D nd tn sn).own k ∨ k = bo) w W:=fun k hk => by
  have hk' : k < w.heap.size:=hk.elim (hlt k) fun e => e ▸ hbl
  exact ⟨Nat.lt_of_lt_of_le hk' hW.size,hW.block k hk'⟩
 have q_on : ∀ V,Kp (fun k => (jEf m b bm D nd tn sn).own k ∨ k = bo) w V → (jEf m b bm D nd tn sn).q V:=fun V hV => (jEf m b bm D nd tn sn).on w V hq fun k hk => (hV k (.inl hk)).2
 have c0 : W.cell? ⟨bo,0,none⟩ = some (.pointer (some ⟨b,0,none⟩)):=jJx ((K0 bo (.inr rfl)).2.trans hbo) rfl
 refine callsIn_of_wp Tryz.func227 rfl trivial ?_ rfl
 simp only [Tryz.ntmps227,List.size_toArray,List.length_cons,List.length_nil,Nat.reduceAdd,Nat.reduceSub,Array.replicate_succ,Array.replicate_zero,List.push_toArray,List.append_toArray,List.nil_append,List.cons_append]
 gi_upto_region 0 with fail
 gi_big_quiet_th (fail)
 have K1 : Kp (fun k => (jEf m b bm D nd tn sn).own k ∨ k = bo) w (W.drewN nq):=K0
 have h1 : J [] (W.drewN nq) fp0:=hJ _ _ _ _ h0 (kGe _ _ _) fun _ _ => rfl
 clear c0
 gi_wp2
 gi_loopw [13] (fun i wr => ∃ (k : Nat) (fp : Nat → Prop),k ≤ 2 ∧ i = .int .i64 k ∧ Kp (fun k => (jEf m b bm D nd tn sn).own k ∨ k = bo) w wr ∧ J (jKl tn sn k) wr fp) (fun i _ => 2 - (intOf i).toNat)
 case atStart => exact ⟨0,fp0,Nat.zero_le _,rfl,K1,h1⟩
 case round =>
  clear h1 K1 h0 K0
  obtain ⟨k,fp,hk,rfl,K2,h2⟩:=hrel
  by_cases hk2 : k < 2
  ·obtain ⟨off,L,R⟩:=row_of (m:=m) (bm:=bm) lk hk2
   have hix:=R.index
   have c1:=jJx (q_on _ K2).1 R.first
   have hki : (k : Int) < 2:=by omega
   have HT:=jAa R.told
   have HP:=jAa R.pre
   have HC:=jAa R.chain
   have HN:=jAa R.nodup
   have HS:=jAa R.sub
   clear R
   gi_wp2
   gi_loopw [5] (fun p wr => ∃ (A B : List Nk) (fp : Nat → Prop),L = A ++ B ∧ p = jC1 B ∧ Kp (fun k => (jEf m b bm D nd tn sn).own k ∨ k = bo) w wr ∧ J (jKl tn sn k ++ jAs A) wr fp) (fun p _ => jR7 L p)
   case atStart => exact ⟨[],L,fp,rfl,rfl,K2,by simpa using h2⟩
   case round =>
    clear K2 h2 c1 hix
    obtain ⟨A,B,fp3,rfl,rfl,K3,h3⟩:=hrel
    cases B with
    | nil =>
     rw [jMq]
     gi_wp2
     refine ⟨⟨k + 1,fp3,hk2,by go_num,K3,?_⟩,by simp [intOf];omega⟩
     have:=HT.out
     rw [List.append_nil] at this
     rw [this]
     exact h3
    | cons x B =>
     have c2 : wr.cell? ⟨x.1,0,none⟩ = some (.string x.2):=jJx ((q_on _ K3).2.1.1 x.1 (HS.out x (by simp))) (by rw [HC.out A x B rfl];rfl)
     have hpr : jKl tn sn k ++ (jAs A ++ x.2 :: jAs B) <+: jAs (tn ++ sn):=by simpa [jAs] using HP.out
     have hln:=kM6 hpr (N:=tn.length + sn.length) (by simp [jAs])
     obtain ⟨fn,tmps,assign,body,hy,hR⟩:=hY _ x.2 wr fp3 h3 hln
     have HM:=jAa (jZm HN.out)
     have hfp3:=hfp _ _ _ h3
     rw [jGu]
     unfold jS5 at hy
     gi_wp2
     refine hR.mono ?_
     rintro e W3 ⟨fp4,g4,-,⟨rfl,h4⟩ | ⟨rfl,h4⟩⟩
     ·have K4:=K3.step g4 hfp3
      have c3 : W3.cell? ⟨x.1,3,none⟩ = some (jC1 B):=jJx ((q_on _ K4).2.1.1 x.1 (HS.out x (by simp))) (by rw [HC.out A x B rfl];rfl)
      have h5 : J (jKl tn sn k ++ jAs (A ++ [x])) W3 fp4:=by simpa [jAs] using h4
      clear h4
      gi_wp2
      go_roundw
      case rel => exact ⟨A ++ [x],B,fp4,by simp,rfl,K4,h5⟩
      case measure => exact HM.out
     ·have hp2 : jKl tn sn k ++ jAs A ++ [x.2] <+: jAs (tn ++ sn):=by
       refine List.IsPrefix.trans ?_ hpr
       exact ⟨jAs B,by simp⟩
      gi_wp2
      refine bodyPost_ret (results_none rfl _ _ _) rfl ?_
      exact ⟨⟨_,rfl⟩,.inr ⟨_,fp4,hp2,h4⟩⟩
  ·obtain rfl : k = 2:=by omega
   gi_wp2
   go_end0
   exact ⟨⟨_,rfl⟩,.inl ⟨_,fp,rfl,h2⟩⟩
end
section
open Go.RowKit Go.Maps Go.Shelf
theorem Law.putD {w0 W : World} {A : jAd} (H : Law w0 W A) {D : Nat} (o : Obj) (hD : ¬ A.own D) (h0 : w0.heap.size ≤ D) : Law w0 (W.putObj D o) A:=by
 have hg:=jEj (W:=W) (F:=fun k => k = D) o rfl
 exact ⟨Gr.below H.below hg (fun k hk => by omega),A.on _ _ H.q fun k hk => World.putObj_heap_other fun e => hD (by rw [← e];exact hk),fun k hk => ⟨(H.lt k hk).1,Nat.lt_of_lt_of_le (H.lt k hk).2 hg.size⟩⟩
theorem Ls0.lt {w : World} {b : Nat} {own : Nat → Prop} {st : Sr} (h : Ls0 w b own st) : ∀ k,own k → k < w.heap.size:=by
 obtain ⟨_,_,_,_,_,_,_,h3,_⟩:=h
 exact h3
theorem Ls0.keep {w w' : World} {b : Nat} {own : Nat → Prop} {st : Sr} (h : Ls0 w b own st) (hs : jMh own w w') : Ls0 w' b own st:=by
 obtain ⟨bm,D,nd,tn,sn,rfl,h2,h3,h4⟩:=h
 refine ⟨bm,D,nd,tn,sn,rfl,(jEf (max st.most 0) b bm D nd tn sn).on w w' h2 hs,fun k hk => ?_,h4⟩
 have h5:=h3 k hk
 have h6:=hs k hk
 rw [Array.getElem?_eq_getElem h5] at h6
 exact (Array.getElem?_eq_some_iff.1 h6).1
theorem Ls0.grown {w w' : World} {b : Nat} {own : Nat → Prop} {st : Sr} (h : Ls0 w b own st) (hg : w.grownBy w' none) : Ls0 w' b own st:=h.keep fun k hk => hg.block k (h.lt k hk) (by simp)
structure Laid1 (V w1 : World) (o : Obj) : Prop where
 grown : V.grownBy w1 none
 size : w1.heap.size = V.heap.size + 1
 box : w1.heap[V.heap.size]? = some o
theorem laid1 (V : World) (o : Obj) : Laid1 V (V.alloc o) o:=⟨World.grownBy_alloc _ _ _,World.size_alloc _ _,World.alloc_heap_new V o⟩
theorem keysMk (b : Nat) (w : World) : Calls Tryz.prog 211 #[.pointer (some ⟨b,0,none⟩)] w fun e w' => e = .returned (.func (.func 227) #[] #[.pointer (some ⟨w.heap.size,0,none⟩)]) ∧ Laid1 w w' (.cells #[.pointer (some ⟨b,0,none⟩)] 57):=by
 have hL:=laid1 w (.cells #[.pointer (some ⟨b,0,none⟩)] 57)
 go_enter Tryz.func211,Tryz.ntmps211
 go_wp2
 go_ret
 exact ⟨rfl,hL⟩
theorem kOe {w V : World} {b bo : Nat} {own : Nat → Prop} {st : Sr} (h : Ls0 w b own st) (hV : w.grownBy V none) (hbo : V.heap[bo]? = some (.cells #[.pointer (some ⟨b,0,none⟩)] 57)) (n : Nat) (hn : 1 ≤ n) :
  jW5 Fence.wide n Tryz.prog 227 #[.pointer (some ⟨bo,0,none⟩)] jS5 (fun k => own k ∨ k = bo) (fun ys => ys = jA3 st) (fun pre => pre <+: jA3 st) (jA3 st).length V:=by
 obtain ⟨bm,D,nd,tn,sn,rfl,h2,h3,h4⟩:=h.grown hV
 rw [h4.all]
 have:=kL7 n hn h2 h3 hbo h4.lk
 have e : (jAs (tn ++ sn)).length = tn.length + sn.length:=by simp [jAs]
 rw [e]
 exact this
end
section
open Go.RowKit Go.Maps Go.Shelf
attribute [local go_sem] Oper.semAt_some
theorem jZu {fn : Func} {p q : Tmp} {t u : TypeId} (h : fn.results = #[.cell p t,.cell q u]) (tmps : Array Value) (P : Program) (w : World) :
  (results fn tmps).run P w = ((asAddr (tmps.getD p undef)).run P w).andThen fun a w₁ => ((loadVar t a).run P w₁).andThen fun v w₂ => ((asAddr (tmps.getD q undef)).run P w₂).andThen fun a' w₃ => ((loadVar u a').run P w₃).andThen fun v' w₄ => .ok (.tuple #[v,v']) w₄:=by
 simp only [results,h]
 simp [Sem.run_bind,Result.andThen]
theorem kKx {own : Nat → Prop} {w0 : World} {bo : Nat} {o : Obj} {G : List ByteArray → Value → jAd} {C : List ByteArray → Value → Prop} (ho : ∀ k,own k → k < w0.heap.size) : ∀ pre V fp,(∃ v,fp = (G pre v).own ∧ Law w0 V ((jAn bo o).and (G pre v)) ∧ C pre v) → ∀ k,fp k → k < V.heap.size ∧ ¬ (own k ∨ k = bo):=by
 rintro pre V fp ⟨v,rfl,H,-⟩ k hk
 refine ⟨(H.lt k (.inr hk)).2,?_⟩
 rintro (h | h)
 ·have h1:=(H.lt k (.inr hk)).1
  have h2:=ho k h
  omega
 ·exact H.q.2.2 k h hk
abbrev jHe (n : Nat) (s : ByteArray) (v q : Value) : jAd:=(jAn (n + 1 + 1) (.cells #[q] 4)).and ((jAn (n + 1) (.cells #[v] 9)).and ((jAn n (.cells #[.string s] 9)).and jAd.emp))
theorem jVy {w W : World} {A : jAd} {n : Nat} {s : ByteArray} {v q : Value} (H : Law w W (A.and (jHe n s v q))) : Boxed W (n + 1) 9 v ∧ Boxed W (n + 1 + 1) 4 q ∧ Boxed W n 9 (.string s):=⟨H.q.2.1.2.1.1,H.q.2.1.1,H.q.2.1.2.1.2.1.1⟩
theorem jUd {w W : World} {A : jAd} {n : Nat} {s : ByteArray} {v q : Value} (H : Law w W (A.and (jHe n s v q))) (v' q' : Value) :
  Boxed (W.setCell ⟨n + 1,0,none⟩ v') (n + 1 + 1) 4 q ∧ Law w ((W.setCell ⟨n + 1,0,none⟩ v').setCell ⟨n + 1 + 1,0,none⟩ q') (A.and (jHe n s v' q')) ∧ Gr (jHe n s v q).own W ((W.setCell ⟨n + 1,0,none⟩ v').setCell ⟨n + 1 + 1,0,none⟩ q'):=by
 have H1:=((H.rin.rot.set v').rot.rin).rot
 refine ⟨H1.q.1,(H1.set q').rot,?_⟩
 have g1:=grownBy_setCell' W (n + 1) v'
 have g2:=grownBy_setCell' (W.setCell ⟨n + 1,0,none⟩ v') (n + 1 + 1) q'
 refine ⟨g2.1.trans g1.1,g2.2.trans g1.2,g2.3.trans g1.3,Nat.le_trans g1.4 g2.4,fun k hk hn => (g2.5 k (Nat.lt_of_lt_of_le hk g1.4) fun e => ?_).trans (g1.5 k hk fun e => ?_)⟩
 ·cases e
  exact hn (.inl rfl)
 ·cases e
  exact hn (.inr (.inl rfl))
theorem jQk {w W : World} {n : Nat} {s : ByteArray} {x : ByteArray} {q : Bool} (H : Law w W (jHe n s (.string x) (.bool q))) {tmps : Array Value} (h4 : tmps.getD 4 undef = .pointer (some ⟨n + 1,0,none⟩)) (h5 : tmps.getD 5 undef = .pointer (some ⟨n + 1 + 1,0,none⟩)) : (results Tryz.f191 tmps).run Tryz.prog W = .ok (.tuple #[.string x,.bool q]) W:=by
 have c1:=(show Boxed W (n + 1) 9 (.string x) from H.q.2.1.1).cell
 have c2:=(show Boxed W (n + 1 + 1) 4 (.bool q) from H.q.1).cell
 rw [jZu rfl,h4,h5]
 go_simp
abbrev vicB (w : World) (b : Nat) : jAd:=jAn (w.heap.size + 1 + 1 + 1) (.cells #[.pointer (some ⟨b,0,none⟩)] 57)
def VicI (w : World) (b : Nat) (s : ByteArray) (pre : List ByteArray) (W : World) (fp : Nat → Prop) : Prop:=∃ _v : Value,fp = (jHe w.heap.size s (.string ⟨#[]⟩) (.bool false)).own ∧ Law w W ((vicB w b).and (jHe w.heap.size s (.string ⟨#[]⟩) (.bool false))) ∧ ∀ y ∈ pre,y = s
def VicX (w : World) (b : Nat) (s : ByteArray) (c : Code) (pre : List ByteArray) (W : World) (fp : Nat → Prop) : Prop:=∃ v : Value,fp = (jHe w.heap.size s v (.bool true)).own ∧ Law w W ((vicB w b).and (jHe w.heap.size s v (.bool true))) ∧ (c = .ret ∧ ∃ p x,pre = p ++ [x] ∧ v = .string x ∧ x ≠ s ∧ ∀ y ∈ p,y = s)
theorem kM4 {x y : ByteArray} (h : x ≠ y) : (x.toList == y.toList) = false:=beq_eq_false_iff_ne.2 fun e => h (by
 rw [ByteArray.toList_eq,ByteArray.toList_eq] at e
 exact ByteArray.ext (Array.toList_inj.1 e))
theorem kE7 {st : Sr} {s x : ByteArray} {p : List ByteArray} (h : p ++ [x] <+: jA3 st) (hp : ∀ y ∈ p,y = s) (hx : x ≠ s) : jDe st s = some x:=by
 obtain ⟨r,hr⟩:=h
 unfold jDe
 rw [← hr,List.append_assoc,List.find?_append]
 have : p.find? (fun y => decide (y ≠ s)) = none:=List.find?_eq_none.2 fun y hy => by simp [hp y hy]
 rw [this]
 simp [hx]
theorem kDt {st : Sr} {s : ByteArray} (h : ∀ y ∈ jA3 st,y = s) : jDe st s = none:=List.find?_eq_none.2 fun y hy => by simp [h y hy]
def VicEnd (w : World) (b : Nat) (own : Nat → Prop) (st : Sr) (s : ByteArray) (e : Ending) (w' : World) : Prop:=e = .returned (.tuple #[.string ((jDe st s).getD ⟨#[]⟩),.bool (jDe st s).isSome]) ∧ Ls0 w' b own st ∧ w.grownBy w' none
theorem kMh {w : World} {b : Nat} {own : Nat → Prop} {st : Sr} (h : Ls0 w b own st) (s : ByteArray) :
  Calls Tryz.prog 191 #[.pointer (some ⟨b,0,none⟩),.string s] w (VicEnd w b own st s):=by
 refine (callsIn_wide (n:=9)).1 ?_
 have H0:=(((Law.start w).box (.cells #[.string s] 9)).box (.cells #[.string ⟨#[]⟩] 9)).box (.cells #[.bool false] 4)
 simp only [World.size_alloc] at H0
 refine callsIn_of_wp_marks Tryz.func191 rfl trivial ?_ rfl
 simp only [Tryz.ntmps191,List.size_toArray,List.length_cons,List.length_nil,Nat.reduceAdd,Nat.reduceSub,Array.replicate_succ,Array.replicate_zero,List.push_toArray,List.append_toArray,List.nil_append,List.cons_append]
 gi_wp2_with (refine ⟨trivial,?_⟩;gi_at_call 211;refine (callsIn_wide.2 (keysMk b _)).mono ?_;rintro e w1 ⟨rfl,hk1⟩)
 have hsz : w1.heap.size = w.heap.size + 1 + 1 + 1 + 1:=by rw [hk1.size];simp only [World.size_alloc]
 have hbx : w1.heap[w.heap.size + 1 + 1 + 1]? = some (.cells #[.pointer (some ⟨b,0,none⟩)] 57):=by
  have:=hk1.box
  simp only [World.size_alloc] at this
  exact this
 have hgw : w.grownBy w1 none:=jFw (H0.step hk1.grown).below
 have H1 : Law w w1 ((jAn (w.heap.size + 1 + 1 + 1) (.cells #[.pointer (some ⟨b,0,none⟩)] 57)).and (jHe w.heap.size s (.string ⟨#[]⟩) (.bool false))):=H0.new hk1.grown hbx (by rintro k rfl;simp only [World.size_alloc];omega)
 have ho:=h.lt
 have hlt2 : ∀ k,(own k ∨ k = w.heap.size + 1 + 1 + 1) → k < w1.heap.size:=fun k hk => hk.elim (fun hh => by have:=ho k hh;omega) fun hh => by omega
 have hend : ∀ W,Law w W (jHe w.heap.size s (.string ⟨#[]⟩) (.bool false)) → True:=fun _ _ => trivial
 have hL:=jAa h
 have hseq:=kOe h hgw hbx
 clear H0 hend hk1 h
 refine kE3 rfl (by decide) (gf:=227) (lb:=#[.pointer (some ⟨w.heap.size + 1 + 1 + 1,0,none⟩)]) rfl trivial (fun args u => by kernel_rfl) (hseq (9 - 1) (by decide)) (Below.refl _ _) hlt2 (fun _ => rfl)
  (VicI w b s) (VicX w b s)
  _ (jU1 (w0:=w) (it:=jAn (w.heap.size + 1 + 1 + 1) (.cells #[.pointer (some ⟨b,0,none⟩)] 57)) (G:=fun (_ : List ByteArray) (_ : Value) => jHe w.heap.size s (.string ⟨#[]⟩) (.bool false)) (C:=fun pre _ => ∀ y ∈ pre,y = s) (by omega) (fun k hk => hlt2 k (.inr hk))) (fun c => jU1 (w0:=w) (it:=jAn (w.heap.size + 1 + 1 + 1) (.cells #[.pointer (some ⟨b,0,none⟩)] 57)) (G:=fun (_ : List ByteArray) (v : Value) => jHe w.heap.size s v (.bool true)) (C:=fun pre v => c = .ret ∧ ∃ p x,pre = p ++ [x] ∧ v = .string x ∧ x ≠ s ∧ ∀ y ∈ p,y = s) (by omega) (fun k hk => hlt2 k (.inr hk))) (kKx (G:=fun (_ : List ByteArray) (_ : Value) => jHe w.heap.size s (.string ⟨#[]⟩) (.bool false)) (C:=fun pre _ => ∀ y ∈ pre,y = s) ho) ⟨undef,rfl,H1,fun y hy => by cases hy⟩ ?act ?assign ?body ?done ?stop
 case assign =>
  intro l x W K hK
  unfold jS5
  gi_wp2
  exact hK
 case body =>
  rintro l pre x W fp ⟨_,rfl,HJ,hall⟩ hltN
  clear H1
  obtain ⟨b1,b2,b3⟩:=jVy HJ
  have c1:=b1.cell
  have c2:=b2.cell
  have c3:=b3.cell
  have f1:=b1.frozen
  by_cases hx : x = s
  ·subst hx
   have HG : Hid (∃ fp',Gr (jHe w.heap.size x (.string ⟨#[]⟩) (.bool false)).own W W ∧ jBm W (jHe w.heap.size x (.string ⟨#[]⟩) (.bool false)).own fp' ∧ VicI w b x (pre ++ [x]) W fp'):=by
    refine ⟨_,Gr.refl _ _,fun _ hk => .inl hk,undef,rfl,HJ,fun y hy => ?_⟩
    rcases List.mem_append.1 hy with hy | hy
    ·exact hall y hy
    ·exact List.mem_singleton.1 hy
   clear hall HJ
   gi_wp2
   exact HG.out
  ·obtain ⟨b4,HJ2,hG⟩:=jUd HJ (.string x) (.bool true)
   have c4:=b4.cell
   have f4:=b4.frozen
   have hne:=kM4 hx
   have HG : Hid (∃ fp',Gr (jHe w.heap.size s (.string ⟨#[]⟩) (.bool false)).own W ((W.setCell ⟨w.heap.size + 1,0,none⟩ (.string x)).setCell ⟨w.heap.size + 1 + 1,0,none⟩ (.bool true)) ∧ jBm W (jHe w.heap.size s (.string ⟨#[]⟩) (.bool false)).own fp' ∧ VicX w b s .ret (pre ++ [x]) ((W.setCell ⟨w.heap.size + 1,0,none⟩ (.string x)).setCell ⟨w.heap.size + 1 + 1,0,none⟩ (.bool true)) fp') :=
    ⟨_,hG,fun _ hk => .inl hk,.string x,rfl,HJ2,rfl,pre,x,rfl,rfl,hx,hall⟩
   clear hall HJ hx HJ2 hG
   gi_wp2
   exact HG.out
 case stop =>
  rintro D c pre W fp hD hpre ⟨v,rfl,HJ,rfl,p,x,rfl,rfl,hx,hall⟩ hK hnD
  have hf:=jAa (kE7 hpre hall hx)
  have HE:=HJ.right.putD (.deferred none) hnD (by omega)
  have HE2:=jAa HE
  clear hall hpre hx H1
  gi_wp2
  refine ⟨by simp,.inl ⟨_,_,rfl,run_takeDeferred hK,?_⟩⟩
  refine ⟨.tuple #[.string x,.bool true],?_,?_⟩
  ·exact jQk HE2.out rfl rfl
  ·refine ⟨by rw [hf.out];rfl,hL.out.grown (jFw HE2.out.below),jFw HE2.out.below⟩
 case done =>
  rintro D ys W fp hD rfl ⟨_,rfl,HJ,hall⟩ hK hnD
  have hf:=jAa (kDt hall)
  obtain ⟨b1,b2,b3⟩:=jVy HJ
  have c1:=b1.cell
  have f1:=b1.frozen
  obtain ⟨b4,HJ2,hG⟩:=jUd HJ (.string ⟨#[]⟩) (.bool false)
  have c4:=b4.cell
  have f4:=b4.frozen
  have hK2 : ((W.setCell ⟨w.heap.size + 1,0,none⟩ (.string ⟨#[]⟩)).setCell ⟨w.heap.size + 1 + 1,0,none⟩ (.bool false)).heap[D]? = some (.deferred (some [])):=(hG.block D (Array.getElem?_eq_some_iff.1 hK).1 hnD).trans hK
  have HE2:=jAa (HJ2.right.putD (.deferred none) hnD (by omega))
  clear hall HJ H1 HJ2 hG
  gi_wp2
  refine ⟨by simp,.inl ⟨_,_,rfl,run_takeDeferred hK2,?_⟩⟩
  refine ⟨.tuple #[.string ⟨#[]⟩,.bool false],?_,?_⟩
  ·exact jQk HE2.out rfl rfl
  ·refine ⟨by rw [hf.out];rfl,hL.out.grown (jFw HE2.out.below),jFw HE2.out.below⟩
theorem Ls0.good {w : World} {b : Nat} {own : Nat → Prop} {st : Sr} (h : Ls0 w b own st) : jHz st:=by
 obtain ⟨_,_,_,_,_,_,_,_,h4⟩:=h
 exact h4.good
theorem kJg : kBj Ls0 where
 lt:=fun h => h.lt
 good:=fun h => h.good
 keep:=fun h hs => h.keep hs
 new:=kKw
 add:=fun h hn s hs => kL2 h hn s hs
 hit:=fun h hn s hs => kKm h hn s hs
 remove:=fun h hn s hs => kKy h hn s hs
 victim:=fun h _ s _ => kMh h s
end
end Go.Proofs.YtkfeafmpaodagaaGreatDoor
