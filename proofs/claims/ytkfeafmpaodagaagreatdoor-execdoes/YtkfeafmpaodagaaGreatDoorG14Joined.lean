/- Keys in linked nodes, over lists alone: what the nodes' cells are, and what they are behind a node's coming and going. Nothing of the program is run here. Conditions: none. The rows of package slru, in memory: a node is put last, and taken out. Conditions: none. A node is taken out of its row, and moved to another one. Conditions: none. Both rows of a list together: nodes that are taken out, put, and moved. Conditions: none. -/
import Derived.Test.YtkfeafmpaodagaaGreatDoorG03Joined
import Derived.Test.YtkfeafmpaodagaaGreatDoorG10Joined
import Derived.Deep.CutBlock
import Derived.Deep.CutRange
import Derived.Deep.QuietTactic
import Derived.BigQuiet
import Derived.Deep.RegionLaw
namespace Go.Proofs.YtkfeafmpaodagaaGreatDoor
set_option maxHeartbeats 16000000
section
open Go.RowKit
abbrev Nk:=Nat × ByteArray
def ptN : Option Nat → Value
 | none => .pointer none
 | some k => .pointer (some ⟨k,0,none⟩)
def jC1 (l : List Nk) : Value:=ptN (l.head?.map (·.1))
def jDf (l : List Nk) : Value:=ptN (l.getLast?.map (·.1))
abbrev ids (l : List Nk) : List Nat:=l.map (·.1)
abbrev jAs (l : List Nk) : List ByteArray:=l.map (·.2)
def jQc (b off : Nat) (s : ByteArray) (pv nx : Value) : Array Value:=#[.string s,.pointer (some ⟨b,off,none⟩),pv,nx]
def jKh (b off : Nat) (nd : Nat → Array Value) (l : List Nk) : Prop:=∀ pre x post,l = pre ++ x :: post → nd x.1 = jQc b off x.2 (jDf pre) (jC1 post)
def jEl (nd : Nat → Array Value) (k i : Nat) (y : Value) : Nat → Array Value:=fun j => if j = k then (nd k).setIfInBounds i y else nd j
theorem jDq (nd : Nat → Array Value) (k i : Nat) (y : Value) : jEl nd k i y k = (nd k).setIfInBounds i y:=if_pos rfl
theorem jA2 {nd : Nat → Array Value} {k j i : Nat} {y : Value} (h : j ≠ k) : jEl nd k i y j = nd j:=if_neg h
theorem jOl {A B : List Nk} {x : Nk} : jDf (A ++ x :: B) = jDf (x :: B):=by
 unfold jDf
 rw [List.getLast?_append]
 cases h : (x :: B).getLast? with
 | none => simp at h
 | some y => rfl
theorem jUl {B : List Nk} {x y : Nk} : jDf (x :: y :: B) = jDf (y :: B):=by
 unfold jDf
 rw [List.getLast?_cons_cons]
theorem jF9 {P Q : List Nk} {u v : Nk} (h : (ids (P ++ u :: Q)).Nodup) (hv : v ∈ P ∨ v ∈ Q) : v.1 ≠ u.1:=by
 unfold ids at h
 rw [List.map_append,List.map_cons,List.nodup_append] at h
 obtain ⟨_,h2,h3⟩:=h
 rw [List.nodup_cons] at h2
 intro e
 rcases hv with hv | hv
 ·exact h3 v.1 (List.mem_map_of_mem hv) u.1 List.mem_cons_self e
 ·exact h2.1 (e ▸ List.mem_map_of_mem hv)
theorem jH2 {b off : Nat} {nd nd' : Nat → Array Value} {l : List Nk} (h : jKh b off nd l) (hs : ∀ y ∈ l,nd' y.1 = nd y.1) : jKh b off nd' l:=fun pre x post e => (hs x (by rw [e];simp)).trans (h pre x post e)
def jFc (nd : Nat → Array Value) (A B : List Nk) : Nat → Array Value :=
 let n1:=match A.getLast? with
  | none => nd
  | some a => jEl nd a.1 3 (jC1 B)
 match B.head? with
 | none => n1
 | some c => jEl n1 c.1 2 (jDf A)
theorem jM4 {nd : Nat → Array Value} {A B : List Nk} {k : Nat} (ha : ∀ a,A.getLast? = some a → k ≠ a.1) (hb : ∀ c,B.head? = some c → k ≠ c.1) : jFc nd A B k = nd k:=by
 unfold jFc
 cases h1 : A.getLast? with
 | none =>
  cases h2 : B.head? with
  | none => rfl
  | some c => exact jA2 (hb c h2)
 | some a =>
  cases h2 : B.head? with
  | none => exact jA2 (ha a h1)
  | some c => exact (jA2 (hb c h2)).trans (jA2 (ha a h1))
theorem kB6 {nd : Nat → Array Value} {A B : List Nk} {a : Nk} (h1 : A.getLast? = some a) (hb : ∀ c,B.head? = some c → a.1 ≠ c.1) : jFc nd A B a.1 = (nd a.1).setIfInBounds 3 (jC1 B):=by
 unfold jFc
 rw [h1]
 cases h2 : B.head? with
 | none => exact jDq _ _ _ _
 | some c => exact (jA2 (hb c h2)).trans (jDq _ _ _ _)
theorem kAc {nd : Nat → Array Value} {A B : List Nk} {c : Nk} (h2 : B.head? = some c) (ha : ∀ a,A.getLast? = some a → c.1 ≠ a.1) : jFc nd A B c.1 = (nd c.1).setIfInBounds 2 (jDf A):=by
 unfold jFc
 rw [h2]
 cases h1 : A.getLast? with
 | none => exact jDq _ _ _ _
 | some a =>
  show jEl (jEl nd a.1 3 (jC1 B)) c.1 2 (jDf A) c.1 = _
  rw [jDq,jA2 (ha a h1)]
theorem jIx {A : List Nk} {a : Nk} (h : A.getLast? = some a) : a ∈ A:=List.mem_of_getLast? h
theorem jO8 {A : List Nk} {a : Nk} (h : A.head? = some a) : a ∈ A:=List.mem_of_head? h
theorem jTa {b off : Nat} {nd : Nat → Array Value} {A B : List Nk} {x : Nk} (h : jKh b off nd (A ++ x :: B)) (hn : (ids (A ++ x :: B)).Nodup) : jKh b off (jFc nd A B) (A ++ B):=by
 have front : ∀ y post,B = y :: post → jFc nd A B y.1 = jQc b off y.2 (jDf A) (jC1 post):=by
  rintro y post rfl
  have h0:=h (A ++ [x]) y post (by simp)
  rw [kAc rfl fun a ha => ?_,h0]
  ·rfl
  ·have hn' : (ids ((A ++ [x]) ++ y :: post)).Nodup:=by simpa using hn
   exact fun e => jF9 hn' (v:=a) (.inl (List.mem_append_left _ (jIx ha))) e.symm
 intro pre y post e
 rcases List.append_eq_append_iff.1 e with ⟨m,h1,h2⟩ | ⟨m,h1,h2⟩
 ·cases m with
  | nil =>
   rw [List.append_nil] at h1
   subst h1
   exact front y post (by simpa using h2)
  | cons c m =>
   subst h1
   subst h2
   have h0:=h (A ++ x :: c :: m) y post (by simp)
   have hn' : (ids ((A ++ x :: c :: m) ++ y :: post)).Nodup:=by simpa using hn
   rw [jM4 (fun a ha => ?_) fun d hd => ?_,h0]
   ·rw [jOl,jOl,jUl]
   ·exact fun e => jF9 hn' (v:=a) (.inl (List.mem_append_left _ (jIx ha))) e.symm
   ·cases hd
    exact fun e => jF9 hn' (v:=c) (.inl (by simp)) e.symm
 ·cases m with
  | nil =>
   rw [List.append_nil] at h1
   subst h1
   exact front y post (by simpa using h2.symm)
  | cons z m =>
   obtain ⟨rfl,rfl⟩ : y = z ∧ post = m ++ B:=by simpa using h2
   subst h1
   have h0:=h pre y (m ++ x :: B) (by simp)
   have hn' : (ids (pre ++ y :: (m ++ x :: B))).Nodup:=by simpa using hn
   cases m with
   | nil =>
    rw [kB6 (a:=y) (by simp) fun d hd => ?_,h0]
    ·rfl
    ·exact fun e => jF9 hn' (v:=d) (.inr (by simp [jO8 hd])) e.symm
   | cons c m =>
    rw [jM4 (fun a ha => ?_) fun d hd => ?_,h0]
    ·rfl
    ·have ha' : (c :: m).getLast? = some a:=by
      rw [List.getLast?_append] at ha
      rw [List.getLast?_cons_cons] at ha
      cases hx : (c :: m).getLast? with
      | none => simp at hx
      | some u => rw [hx] at ha;exact ha
     exact fun e => jF9 hn' (v:=a) (.inr (List.mem_append_left _ (jIx ha'))) e.symm
    ·exact fun e => jF9 hn' (v:=d) (.inr (by simp [jO8 hd])) e.symm
def jKc (nd : Nat → Array Value) (b off x : Nat) (l : List Nk) : Nat → Array Value :=
 let n1:=jEl (jEl (jEl nd x 1 (.pointer (some ⟨b,off,none⟩))) x 2 (jDf l)) x 3 (.pointer none)
 match l.getLast? with
 | none => n1
 | some a => jEl n1 a.1 3 (.pointer (some ⟨x,0,none⟩))
theorem jSu {nd : Nat → Array Value} {b off x k : Nat} {l : List Nk} (hx : k ≠ x) (ha : ∀ a,l.getLast? = some a → k ≠ a.1) : jKc nd b off x l k = nd k:=by
 have h0 : jEl (jEl (jEl nd x 1 (.pointer (some ⟨b,off,none⟩))) x 2 (jDf l)) x 3 (.pointer none) k = nd k:=by rw [jA2 hx,jA2 hx,jA2 hx]
 unfold jKc
 cases h1 : l.getLast? with
 | none => exact h0
 | some a => exact (jA2 (ha a h1)).trans h0
theorem kJh {nd : Nat → Array Value} {b off x : Nat} {l : List Nk} {s : ByteArray} {i p q : Value} (h : nd x = #[.string s,i,p,q]) (ha : ∀ a,l.getLast? = some a → x ≠ a.1) : jKc nd b off x l x = jQc b off s (jDf l) (.pointer none):=by
 have h0 : jEl (jEl (jEl nd x 1 (.pointer (some ⟨b,off,none⟩))) x 2 (jDf l)) x 3 (.pointer none) x = jQc b off s (jDf l) (.pointer none):=by
  rw [jDq,jDq,jDq,h]
  simp [jQc]
 unfold jKc
 cases h1 : l.getLast? with
 | none => exact h0
 | some a => exact (jA2 (ha a h1)).trans h0
theorem kEw {nd : Nat → Array Value} {b off x : Nat} {l : List Nk} {a : Nk} (h1 : l.getLast? = some a) (hx : a.1 ≠ x) : jKc nd b off x l a.1 = (nd a.1).setIfInBounds 3 (.pointer (some ⟨x,0,none⟩)):=by
 unfold jKc
 rw [h1]
 show jEl _ a.1 3 _ a.1 = _
 rw [jDq,jA2 hx,jA2 hx,jA2 hx]
theorem jU7 {b off : Nat} {nd : Nat → Array Value} {l : List Nk} {x : Nk} {i p q : Value} (h : jKh b off nd l) (hn : (ids (l ++ [x])).Nodup) (hx : nd x.1 = #[.string x.2,i,p,q]) : jKh b off (jKc nd b off x.1 l) (l ++ [x]):=by
 have hne : ∀ y ∈ l,y.1 ≠ x.1:=fun y hy => jF9 hn (.inl hy)
 intro pre y post e
 rcases List.eq_nil_or_concat post with rfl | ⟨post',z,rfl⟩
 ·obtain ⟨rfl,e2⟩:=List.append_inj' e rfl
  cases e2
  exact kJh hx fun a ha e => hne a (jIx ha) e.symm
 ·rw [List.concat_eq_append,← List.cons_append,← List.append_assoc] at e
  obtain ⟨rfl,e2⟩:=List.append_inj' e rfl
  cases e2
  have h0:=h pre y post' rfl
  cases post' with
  | nil =>
   rw [kEw (a:=y) (by simp) (hne y (by simp)),h0]
   rfl
  | cons c m =>
   have hn' : (ids (pre ++ y :: (c :: m ++ [x]))).Nodup:=by simpa using hn
   rw [jSu (hne y (by simp)) fun a ha => ?_,h0]
   ·rfl
   ·have ha' : (c :: m).getLast? = some a:=by
     rw [List.getLast?_append,List.getLast?_cons_cons] at ha
     cases hx : (c :: m).getLast? with
     | none => simp at hx
     | some u => rw [hx] at ha;exact ha
    exact fun e => jF9 hn' (v:=a) (.inr (List.mem_append_left _ (jIx ha'))) e.symm
theorem jYw {A B : List Nk} {x : Nk} (hn : (jAs (A ++ x :: B)).Nodup) : jAx (jAs (A ++ x :: B)) x.2 = jAs (A ++ B):=by
 unfold jAs at *
 rw [List.map_append,List.map_cons,List.nodup_append] at hn
 obtain ⟨_,h2,h3⟩:=hn
 rw [List.nodup_cons] at h2
 rw [List.map_append,List.map_cons,jIk,List.map_append]
 congr 1
 ·exact jFv fun hm => h3 _ hm x.2 List.mem_cons_self rfl
 ·have : jAx (x.2 :: B.map (·.2)) x.2 = jAx (B.map (·.2)) x.2:=by simp [jAx]
  rw [this]
  exact jFv h2.1
end
section
open Go.RowKit Go.Maps
def jHm (I : List Nat) (nd : Nat → Array Value) : jAd:=⟨fun k => k ∈ I,fun w => ∀ k ∈ I,w.heap[k]? = some (.cells (nd k) 202),fun _ _ h hs k hk => (hs k hk).trans (h k hk)⟩
theorem jAb.setNode {F : Nat → Prop} {w0 w : World} {I : List Nat} {nd : Nat → Array Value} {R : jAd} (H : jAb F w0 w ((jHm I nd).and R)) (k i : Nat) (hk : k ∈ I) (y : Value) : jAb F w0 (w.setCell ⟨k,i,none⟩ y) ((jHm I (jEl nd k i y)).and R):=by
 refine H.turn (A':=jHm I (jEl nd k i y)) (fun j hj => ?_) (fun j hj => ?_) ?_ fun j hj => .inl hj
 ·by_cases e : j = k
  ·subst e
   rw [jDq]
   exact heap_setCell_same w j i _ _ y (H.q.1 j hj)
  ·rw [jA2 e,heap_setCell_other _ _ _ _ e]
   exact H.q.1 j hj
 ·rw [World.size_setCell]
  exact (H.lt j (.inl hj)).1
 ·exact ⟨rfl,rfl,rfl,by rw [World.size_setCell];exact Nat.le_refl _,fun j _ hn => heap_setCell_other _ _ _ _ fun e => hn (by rw [e];exact hk)⟩
theorem jJx {w : World} {k i : Nat} {cs : Array Value} {t : TypeId} {v : Value} (h : w.heap[k]? = some (.cells cs t)) (hi : cs[i]? = some v) : w.cell? ⟨k,i,none⟩ = some v:=by
 simp [World.cell?,h,hi]
abbrev jBi (F : Nat → Prop) (w0 w : World) (b : Nat) (hc : Array Value) (I : List Nat) (nd : Nat → Array Value) (R : jAd) : Prop:=jAb F w0 w ((jAn b (.cells hc 110)).and ((jHm I nd).and R))
section
variable {F : Nat → Prop} {w0 w : World} {b : Nat} {hc : Array Value} {I : List Nat} {nd : Nat → Array Value} {R : jAd}
theorem jBi.head (H : jBi F w0 w b hc I nd R) {i : Nat} {v : Value} (hi : hc[i]? = some v) : w.cell? ⟨b,i,none⟩ = some v:=jJx H.q.1 hi
theorem jBi.headF (H : jBi F w0 w b hc I nd R) (i : Nat) : w.frozen? ⟨b,i,none⟩ = false:=frozen_of_row w b i _ _ H.q.1
theorem jBi.node (H : jBi F w0 w b hc I nd R) {k i : Nat} {v : Value} (hk : k ∈ I) (hi : (nd k)[i]? = some v) : w.cell? ⟨k,i,none⟩ = some v:=jJx (H.q.2.1.1 k hk) hi
theorem jBi.nodeF (H : jBi F w0 w b hc I nd R) {k : Nat} (hk : k ∈ I) (i : Nat) : w.frozen? ⟨k,i,none⟩ = false:=frozen_of_row w k i _ _ (H.q.2.1.1 k hk)
theorem jBi.setH (H : jBi F w0 w b hc I nd R) (i : Nat) (y : Value) : jBi F w0 (w.setCell ⟨b,i,none⟩ y) b (hc.setIfInBounds i y) I nd R:=H.setAt i y
theorem jBi.setN (H : jBi F w0 w b hc I nd R) {k : Nat} (hk : k ∈ I) (i : Nat) (y : Value) : jBi F w0 (w.setCell ⟨k,i,none⟩ y) b hc I (jEl nd k i y) R:=(H.rot.setNode k i hk y).rot
end
structure RowC (hc : Array Value) (off : Nat) (l : List Nk) : Prop where
 first : hc[off]? = some (jC1 l)
 last : hc[off + 1]? = some (jDf l)
 many : hc[off + 2]? = some (.int .i64 (l.length : Nat))
def jNv (hc : Array Value) (off x : Nat) (l : List Nk) : Array Value :=
 ((if l = [] then hc.setIfInBounds off (.pointer (some ⟨x,0,none⟩)) else hc).setIfInBounds (off + 1) (.pointer (some ⟨x,0,none⟩))).setIfInBounds (off + 2) (.int .i64 (l.length + 1 : Nat))
theorem jYa {a : Int} (h : -9223372036854775808 ≤ a ∧ a < 9223372036854775808) : wrap64 a = a:=by unfold wrap64;omega
theorem jH0 {hc : Array Value} {i j : Nat} {v y : Value} (h : hc[j]? = some v) (hne : i ≠ j) : (hc.setIfInBounds i y)[j]? = some v:=by
 rw [Array.getElem?_setIfInBounds,if_neg hne,h]
theorem jRn : jDf [] = .pointer none:=rfl
theorem jFo (l : List Nk) (a : Nk) : jDf (l ++ [a]) = .pointer (some ⟨a.1,0,none⟩):=by simp [jDf,ptN]
theorem jL9 (l : List Nk) (a : Nk) : (l ++ [a]).getLast? = some a:=by simp
set_option maxRecDepth 100000 in
theorem jQr {F : Nat → Prop} {w0 w : World} {b off x : Nat} {hc : Array Value} {I : List Nat} {nd : Nat → Array Value} {R : jAd} {l : List Nk} {s : ByteArray} {i p q : Value} (H : jBi F w0 w b hc I nd R) (hr : RowC hc off l) (hl : l.length < maxLen) (hx : x ∈ I) (hi : ∀ y ∈ l,y.1 ∈ I) (hne : ∀ y ∈ l,y.1 ≠ x) (hv : nd x = #[.string s,i,p,q]) (h4 : ∀ y ∈ l,(nd y.1).size = 4) :
  Calls Tryz.prog 133 #[.pointer (some ⟨b,off,none⟩),.pointer (some ⟨x,0,none⟩)] w fun e w' => e = .returned (.tuple #[]) ∧ jBi F w0 w' b (jNv hc off x l) I (jKc nd b off x l) R:=by
 obtain ⟨hr0,hr1,hr2⟩:=hr
 obtain ⟨m,hm⟩ : ∃ m,l.length = m:=⟨_,rfl⟩
 rw [hm] at hr2 hl
 have e1 : wrap64 ((m : Int) + 1) = ((m + 1 : Nat) : Int):=(jYa (by unfold maxLen at hl;omega)).trans (by omega)
 rcases List.eq_nil_or_concat l with rfl | ⟨l0,a,rfl⟩
 ·rw [jRn] at hr1
  have c1:=H.head hr1
  have g1:=H.nodeF hx 1
  have n1:=H.node hx (i:=1) (v:=i) (by rw [hv];rfl)
  have H1:=H.setN hx 1 (.pointer (some ⟨b,off,none⟩))
  have x1 : jEl nd x 1 (.pointer (some ⟨b,off,none⟩)) x = #[.string s,.pointer (some ⟨b,off,none⟩),p,q]:=by rw [jDq,hv];simp
  have g2:=H1.nodeF hx 2
  have n2:=H1.node hx (i:=2) (v:=p) (by rw [x1];rfl)
  have H2:=H1.setN hx 2 (.pointer none)
  have x2 : jEl (jEl nd x 1 (.pointer (some ⟨b,off,none⟩))) x 2 (.pointer none) x = #[.string s,.pointer (some ⟨b,off,none⟩),.pointer none,q]:=by rw [jDq,x1];simp
  have g3:=H2.nodeF hx 3
  have n3:=H2.node hx (i:=3) (v:=q) (by rw [x2];rfl)
  have H3:=H2.setN hx 3 (.pointer none)
  have c3:=H3.head hr1
  have f0:=H3.headF off
  have k0:=H3.head hr0
  have H4:=H3.setH off (.pointer (some ⟨x,0,none⟩))
  have f1:=H4.headF (off + 1)
  have k1:=H4.head (jH0 hr1 (by omega))
  have H5:=H4.setH (off + 1) (.pointer (some ⟨x,0,none⟩))
  have f2:=H5.headF (off + 2)
  have k2:=H5.head (jH0 (jH0 hr2 (by omega)) (by omega))
  have H6:=jAa (H5.setH (off + 2) (.int .i64 (m + 1 : Nat)))
  clear H H1 H2 H3 H4 H5 x1 x2
  go_enter Tryz.func133,Tryz.ntmps133
  go_wp2
  go_end0
  refine ⟨rfl,?_⟩
  unfold jNv jKc
  rw [if_pos rfl,hm]
  exact H6.out
 ·rw [List.concat_eq_append] at *
  rw [jFo] at hr1
  have ha : a.1 ∈ I:=hi a (by simp)
  have hax : a.1 ≠ x:=hne a (by simp)
  obtain ⟨a1,ea⟩ : ∃ a1,a.1 = a1:=⟨_,rfl⟩
  have hs4 : (nd a1).size = 4:=by rw [← ea];exact h4 a (by simp)
  rw [ea] at ha hax hr1
  obtain ⟨va,hva⟩ : ∃ v,(nd a1)[3]? = some v:=⟨_,Array.getElem?_eq_getElem (by omega)⟩
  have c1:=H.head hr1
  have g1:=H.nodeF hx 1
  have n1:=H.node hx (i:=1) (v:=i) (by rw [hv];rfl)
  have H1:=H.setN hx 1 (.pointer (some ⟨b,off,none⟩))
  have x1 : jEl nd x 1 (.pointer (some ⟨b,off,none⟩)) x = #[.string s,.pointer (some ⟨b,off,none⟩),p,q]:=by rw [jDq,hv];simp
  have g2:=H1.nodeF hx 2
  have n2:=H1.node hx (i:=2) (v:=p) (by rw [x1];rfl)
  have H2:=H1.setN hx 2 (.pointer (some ⟨a1,0,none⟩))
  have x2 : jEl (jEl nd x 1 (.pointer (some ⟨b,off,none⟩))) x 2 (.pointer (some ⟨a1,0,none⟩)) x = #[.string s,.pointer (some ⟨b,off,none⟩),.pointer (some ⟨a1,0,none⟩),q]:=by rw [jDq,x1];simp
  have g3:=H2.nodeF hx 3
  have n3:=H2.node hx (i:=3) (v:=q) (by rw [x2];rfl)
  have H3:=H2.setN hx 3 (.pointer none)
  have c3:=H3.head hr1
  have f0:=H3.nodeF ha 3
  have k0:=H3.node ha (i:=3) (v:=va) (by rw [jA2 hax,jA2 hax,jA2 hax];exact hva)
  have H4:=H3.setN ha 3 (.pointer (some ⟨x,0,none⟩))
  have f1:=H4.headF (off + 1)
  have k1:=H4.head hr1
  have H5:=H4.setH (off + 1) (.pointer (some ⟨x,0,none⟩))
  have f2:=H5.headF (off + 2)
  have k2:=H5.head (jH0 hr2 (by omega))
  have H6:=jAa (H5.setH (off + 2) (.int .i64 (m + 1 : Nat)))
  clear H H1 H2 H3 H4 H5 x1 x2
  go_enter Tryz.func133,Tryz.ntmps133
  go_wp2
  go_end0
  refine ⟨rfl,?_⟩
  unfold jNv jKc
  rw [if_neg (by simp),hm,jL9,jFo]
  simp only [ea]
  exact H6.out
end
section
open Go.RowKit Go.Maps
def jLr (hc : Array Value) (off : Nat) (A B : List Nk) : Array Value :=
 let h1:=if A = [] then hc.setIfInBounds off (jC1 B) else hc
 let h2:=if B = [] then h1.setIfInBounds (off + 1) (jDf A) else h1
 h2.setIfInBounds (off + 2) (.int .i64 (A.length + B.length : Nat))
theorem jMq : jC1 [] = .pointer none:=rfl
theorem jGu (l : List Nk) (a : Nk) : jC1 (a :: l) = .pointer (some ⟨a.1,0,none⟩):=rfl
set_option maxRecDepth 100000 in
theorem jQ1 {F : Nat → Prop} {w0 w : World} {b off x : Nat} {hc : Array Value} {I : List Nat} {nd : Nat → Array Value} {R : jAd} {A B : List Nk} {s : ByteArray} (H : jBi F w0 w b hc I nd R)
  (hr0 : A = [] → ∃ v,hc[off]? = some v) (hr1 : B = [] → ∃ v,hc[off + 1]? = some v) (hr2 : hc[off + 2]? = some (.int .i64 (A.length + B.length + 1 : Nat))) (hl : A.length + B.length < maxLen) (hx : x ∈ I) (hi : ∀ y ∈ A ++ B,y.1 ∈ I) (hne : ∀ y ∈ A ++ B,y.1 ≠ x) (hab : ∀ a ∈ A,∀ c ∈ B,a.1 ≠ c.1)
  (hv : nd x = jQc b off s (jDf A) (jC1 B)) (h4 : ∀ y ∈ A ++ B,(nd y.1).size = 4) :
  Calls Tryz.prog 132 #[.pointer (some ⟨b,off,none⟩),.pointer (some ⟨x,0,none⟩)] w fun e w' => e = .returned (.tuple #[]) ∧ jBi F w0 w' b (jLr hc off A B) I (jFc nd A B) R:=by
 obtain ⟨m,hm⟩ : ∃ m,A.length + B.length = m:=⟨_,rfl⟩
 rw [hm] at hr2 hl
 have e1 : wrap64 (m : Int) = (m : Int):=jYa (by unfold maxLen at hl;omega)
 have n2:=H.node hx (i:=2) (v:=jDf A) (by rw [hv];rfl)
 have n3:=H.node hx (i:=3) (v:=jC1 B) (by rw [hv];rfl)
 rcases List.eq_nil_or_concat A with rfl | ⟨A0,a,rfl⟩
 ·obtain ⟨v0,hr0⟩:=hr0 rfl
  rw [jRn] at hv n2
  have k0:=H.head hr0
  have f0:=H.headF off
  cases B with
  | nil =>
   obtain ⟨v1,hr1⟩:=hr1 rfl
   rw [jMq] at hv n3
   have H1:=H.setH off (.pointer none)
   have m3:=H1.node hx (i:=3) (v:=.pointer none) (by rw [hv];rfl)
   have m2:=H1.node hx (i:=2) (v:=.pointer none) (by rw [hv];rfl)
   have k1:=H1.head (jH0 hr1 (by omega))
   have f1:=H1.headF (off + 1)
   have H2:=H1.setH (off + 1) (.pointer none)
   have k2:=H2.head (jH0 (jH0 hr2 (by omega)) (by omega))
   have f2:=H2.headF (off + 2)
   have H3:=jAa (H2.setH (off + 2) (.int .i64 (m : Nat)))
   clear H H1 H2
   go_enter Tryz.func132,Tryz.ntmps132
   go_wp2
   go_end0
   refine ⟨rfl,?_⟩
   unfold jLr jFc
   rw [hm]
   exact H3.out
  | cons c B =>
   rw [jGu] at hv n3
   have hc' : c.1 ∈ I:=hi c (by simp)
   have hcx : c.1 ≠ x:=hne c (by simp)
   obtain ⟨c1,ec⟩ : ∃ c1,c.1 = c1:=⟨_,rfl⟩
   have hs4 : (nd c1).size = 4:=by rw [← ec];exact h4 c (by simp)
   rw [ec] at hc' hcx hv n3
   obtain ⟨vc,hvc⟩ : ∃ v,(nd c1)[2]? = some v:=⟨_,Array.getElem?_eq_getElem (by omega)⟩
   have H1:=H.setH off (.pointer (some ⟨c1,0,none⟩))
   have m3:=H1.node hx (i:=3) (v:=.pointer (some ⟨c1,0,none⟩)) (by rw [hv];rfl)
   have H1d:=H1.drew
   have d3:=jBi.node H1d hx (i:=3) (v:=.pointer (some ⟨c1,0,none⟩)) (by rw [hv];rfl)
   have d2:=jBi.node H1d hx (i:=2) (v:=.pointer none) (by rw [hv];rfl)
   have k1:=jBi.node H1d hc' (i:=2) (v:=vc) hvc
   have f1:=jBi.nodeF H1d hc' 2
   have H2:=(H1.setN hc' 2 (.pointer none)).drew
   have q3:=jBi.node H2 hx (i:=3) (v:=.pointer (some ⟨c1,0,none⟩)) (by rw [jA2 hcx.symm,hv];rfl)
   have q2:=jBi.node H2 hx (i:=2) (v:=.pointer none) (by rw [jA2 hcx.symm,hv];rfl)
   have k2:=jBi.head H2 (jH0 hr2 (by omega))
   have f2:=jBi.headF H2 (off + 2)
   have H3:=jAa (((H1.setN hc' 2 (.pointer none)).setH (off + 2) (.int .i64 (m : Nat))).drew)
   clear H H1 H1d H2
   go_enter Tryz.func132,Tryz.ntmps132
   go_upto_region 5 with fail
   go_region_held (fun w' => w'.cell? ⟨x,3,none⟩ = some (.pointer (some ⟨c1,0,none⟩)) ∧ w'.cell? ⟨x,2,none⟩ = some (.pointer none)) (first | exact ⟨d3,d2⟩ | exact ⟨q3,q2⟩) (fail)
   go_wp2
   go_end0
   refine ⟨rfl,?_⟩
   unfold jLr jFc
   rw [hm]
   simp only [List.head?_cons,List.getLast?_nil,jRn,jGu,ec]
   exact H3.out
 ·rw [List.concat_eq_append] at *
  rw [jFo] at hv n2
  have ha' : a.1 ∈ I:=hi a (by simp)
  have hax : a.1 ≠ x:=hne a (by simp)
  have hab:=hab a (by simp)
  obtain ⟨a1,ea⟩ : ∃ a1,a.1 = a1:=⟨_,rfl⟩
  have as4 : (nd a1).size = 4:=by rw [← ea];exact h4 a (by simp)
  rw [ea] at ha' hax hv n2 hab
  obtain ⟨va,hva⟩ : ∃ v,(nd a1)[3]? = some v:=⟨_,Array.getElem?_eq_getElem (by omega)⟩
  have k0:=jBi.node H.drew ha' hva
  have f0:=jBi.nodeF H.drew ha' 3
  have b2:=jBi.node H.drew hx (i:=2) (v:=.pointer (some ⟨a1,0,none⟩)) (by rw [hv];rfl)
  have b3:=jBi.node H.drew hx (i:=3) (v:=jC1 B) (by rw [hv];rfl)
  cases B with
  | nil =>
   obtain ⟨v1,hr1⟩:=hr1 rfl
   rw [jMq] at hv n3 b3
   have H1:=H.setN ha' 3 (.pointer none)
   have H1d:=H1.drew
   have p2:=jBi.node H1d hx (i:=2) (v:=.pointer (some ⟨a1,0,none⟩)) (by rw [jA2 hax.symm,hv];rfl)
   have p3:=jBi.node H1d hx (i:=3) (v:=.pointer none) (by rw [jA2 hax.symm,hv];rfl)
   have k1:=jBi.head H1d hr1
   have f1:=jBi.headF H1d (off + 1)
   have H2:=(H1.setH (off + 1) (.pointer (some ⟨a1,0,none⟩))).drew
   have k2:=jBi.head H2 (jH0 hr2 (by omega))
   have f2:=jBi.headF H2 (off + 2)
   have H3:=jAa (((H1.setH (off + 1) (.pointer (some ⟨a1,0,none⟩))).setH (off + 2) (.int .i64 (m : Nat))).drew)
   clear H H1 H1d H2
   go_enter Tryz.func132,Tryz.ntmps132
   go_upto_region 2 with fail
   go_region_held (fun w' => w'.cell? ⟨x,3,none⟩ = some (.pointer none) ∧ w'.cell? ⟨x,2,none⟩ = some (.pointer (some ⟨a1,0,none⟩))) (first | exact ⟨b3,b2⟩ | exact ⟨p3,p2⟩) (fail)
   go_wp2
   go_end0
   refine ⟨rfl,?_⟩
   unfold jLr jFc
   rw [hm]
   simp only [jL9,List.head?_nil,jFo,jMq,ea]
   first | rw [if_pos rfl] | rw [if_pos trivial]
   rw [if_neg (by simp)]
   exact H3.out
  | cons c B =>
   rw [jGu] at hv n3 b3
   have hc' : c.1 ∈ I:=hi c (by simp)
   have hcx : c.1 ≠ x:=hne c (by simp)
   have hac:=hab c (by simp)
   obtain ⟨c1,ec⟩ : ∃ c1,c.1 = c1:=⟨_,rfl⟩
   have hs4 : (nd c1).size = 4:=by rw [← ec];exact h4 c (by simp)
   rw [ec] at hc' hcx hv n3 b3 hac
   obtain ⟨vc,hvc⟩ : ∃ v,(nd c1)[2]? = some v:=⟨_,Array.getElem?_eq_getElem (by omega)⟩
   have H1:=H.setN ha' 3 (.pointer (some ⟨c1,0,none⟩))
   have H1d:=H1.drew
   have p2:=jBi.node H1d hx (i:=2) (v:=.pointer (some ⟨a1,0,none⟩)) (by rw [jA2 hax.symm,hv];rfl)
   have p3:=jBi.node H1d hx (i:=3) (v:=.pointer (some ⟨c1,0,none⟩)) (by rw [jA2 hax.symm,hv];rfl)
   have H1e:=H1d.drew
   have s2:=jBi.node H1e hx (i:=2) (v:=.pointer (some ⟨a1,0,none⟩)) (by rw [jA2 hax.symm,hv];rfl)
   have s3:=jBi.node H1e hx (i:=3) (v:=.pointer (some ⟨c1,0,none⟩)) (by rw [jA2 hax.symm,hv];rfl)
   have k1:=jBi.node H1e hc' (i:=2) (v:=vc) (by rw [jA2 hac.symm];exact hvc)
   have f1:=jBi.nodeF H1e hc' 2
   have H2:=(H1.setN hc' 2 (.pointer (some ⟨a1,0,none⟩)))
   have H2e:=H2.drew.drew
   have t2:=jBi.node H2e hx (i:=2) (v:=.pointer (some ⟨a1,0,none⟩)) (by rw [jA2 hcx.symm,jA2 hax.symm,hv];rfl)
   have t3:=jBi.node H2e hx (i:=3) (v:=.pointer (some ⟨c1,0,none⟩)) (by rw [jA2 hcx.symm,jA2 hax.symm,hv];rfl)
   have k2:=jBi.head H2e hr2
   have f2:=jBi.headF H2e (off + 2)
   have H3:=jAa (((H2.setH (off + 2) (.int .i64 (m : Nat))).drew).drew)
   clear H H1 H1d H2 H1e H2e
   go_enter Tryz.func132,Tryz.ntmps132
   go_upto_region 2 with fail
   go_region_held (fun w' => w'.cell? ⟨x,3,none⟩ = some (.pointer (some ⟨c1,0,none⟩)) ∧ w'.cell? ⟨x,2,none⟩ = some (.pointer (some ⟨a1,0,none⟩))) (first | exact ⟨b3,b2⟩ | exact ⟨p3,p2⟩) (fail)
   go_upto_region 5 with fail
   go_region_held (fun w' => w'.cell? ⟨x,3,none⟩ = some (.pointer (some ⟨c1,0,none⟩)) ∧ w'.cell? ⟨x,2,none⟩ = some (.pointer (some ⟨a1,0,none⟩))) (first | exact ⟨s3,s2⟩ | exact ⟨t3,t2⟩) (fail)
   go_wp2
   go_end0
   refine ⟨rfl,?_⟩
   unfold jLr jFc
   rw [hm]
   simp only [jL9,List.head?_cons,jFo,jGu,ea,ec]
   rw [if_neg (by simp),if_neg (by simp)]
   exact H3.out
end
section
open Go.RowKit Go.Maps
def jC0 (m : Int) (bm : Nat) (tn sn : List Nk) : Array Value :=
 #[.int .i64 m,.map (some bm),jC1 tn,jDf tn,.int .i64 (tn.length : Nat),jC1 sn,jDf sn,.int .i64 (sn.length : Nat)]
theorem jK3 {A B : List Nk} {x : Nk} (h : A ≠ []) : jC1 (A ++ x :: B) = jC1 (A ++ B):=by
 cases A with
 | nil => exact (h rfl).elim
 | cons a A => rfl
theorem jN9 {A B : List Nk} {x : Nk} (h : B ≠ []) : jDf (A ++ x :: B) = jDf (A ++ B):=by
 cases B with
 | nil => exact (h rfl).elim
 | cons c B => rw [jOl,jOl,jUl]
theorem kD8 (m : Int) (bm : Nat) (A B sn : List Nk) (x : Nk) : jLr (jC0 m bm (A ++ x :: B) sn) 2 A B = jC0 m bm (A ++ B) sn:=by
 unfold jLr
 by_cases hA : A = []
 ·subst hA
  by_cases hB : B = []
  ·subst hB
   simp [jC0]
  ·simp [jC0,hB]
   exact jN9 (A:=[]) hB
 ·by_cases hB : B = []
  ·subst hB
   simp [jC0,hA]
   have:=jK3 (x:=x) (B:=[]) hA
   simpa using this
  ·simp [jC0,hA,hB]
   exact ⟨jK3 hA,jN9 hB⟩
theorem kEc (m : Int) (bm : Nat) (A B tn : List Nk) (x : Nk) : jLr (jC0 m bm tn (A ++ x :: B)) 5 A B = jC0 m bm tn (A ++ B):=by
 unfold jLr
 by_cases hA : A = []
 ·subst hA
  by_cases hB : B = []
  ·subst hB
   simp [jC0]
  ·simp [jC0,hB]
   exact jN9 (A:=[]) hB
 ·by_cases hB : B = []
  ·subst hB
   simp [jC0,hA]
   have:=jK3 (x:=x) (B:=[]) hA
   simpa using this
  ·simp [jC0,hA,hB]
   exact ⟨jK3 hA,jN9 hB⟩
theorem jS4 {l : List Nk} {x : Nk} (h : l ≠ []) : jC1 (l ++ [x]) = jC1 l:=by
 have:=jK3 (x:=x) (B:=[]) h
 simpa using this
theorem kHi (m : Int) (bm : Nat) (tn sn : List Nk) (x : Nk) : jNv (jC0 m bm tn sn) 2 x.1 tn = jC0 m bm (tn ++ [x]) sn:=by
 unfold jNv
 by_cases hA : tn = []
 ·subst hA
  simp [jC0,jGu]
  exact (jFo [] x).symm
 ·simp [jC0,hA,jFo,jS4 hA]
theorem kGm (m : Int) (bm : Nat) (tn sn : List Nk) (x : Nk) : jNv (jC0 m bm tn sn) 5 x.1 sn = jC0 m bm tn (sn ++ [x]):=by
 unfold jNv
 by_cases hA : sn = []
 ·subst hA
  simp [jC0,jGu]
  exact (jFo [] x).symm
 ·simp [jC0,hA,jFo,jS4 hA]
structure Lk (b : Nat) (nd : Nat → Array Value) (I : List Nat) (tn sn : List Nk) : Prop where
 t : jKh b 2 nd tn
 s : jKh b 5 nd sn
 nodup : (ids (tn ++ sn)).Nodup
 sub : ∀ y ∈ tn ++ sn,y.1 ∈ I
structure jLo (nd : Nat → Array Value) (I : List Nat) (tn sn : List Nk) (x : Nk) : Prop where
 cells : ∃ i p q,nd x.1 = #[.string x.2,i,p,q]
 mem : x.1 ∈ I
 out : ∀ y ∈ tn ++ sn,y.1 ≠ x.1
theorem jLs {b off : Nat} {nd : Nat → Array Value} {l : List Nk} (h : jKh b off nd l) : ∀ y ∈ l,(nd y.1).size = 4:=by
 intro y hy
 obtain ⟨A,B,e⟩:=List.append_of_mem hy
 rw [h A y B e]
 rfl
theorem jG9 {l m : List Nk} (h : (ids (l ++ m)).Nodup) : ∀ a ∈ l,∀ c ∈ m,a.1 ≠ c.1:=by
 unfold ids at h
 rw [List.map_append,List.nodup_append] at h
 exact fun a ha c hc => h.2.2 a.1 (List.mem_map_of_mem ha) c.1 (List.mem_map_of_mem hc)
theorem jLq {l m : List Nk} (h : (ids (l ++ m)).Nodup) : (ids l).Nodup:=by
 unfold ids at h
 rw [List.map_append,List.nodup_append] at h
 exact h.1
theorem jKq {l m : List Nk} (h : (ids (l ++ m)).Nodup) : (ids m).Nodup:=by
 unfold ids at h
 rw [List.map_append,List.nodup_append] at h
 exact h.2.1
theorem jMz {l m : List Nk} (h : (ids m).Nodup) (hs : l.Sublist m) : (ids l).Nodup:=(hs.map _).nodup h
theorem jFg (A B : List Nk) (x : Nk) : (A ++ B).Sublist (A ++ x :: B):=(List.Sublist.refl A).append (List.sublist_cons_self x B)
section
variable {b : Nat} {nd : Nat → Array Value} {I : List Nat} {tn sn A B : List Nk} {x : Nk}
theorem jMs {A B : List Nk} {k : Nat} (h : ∀ y ∈ A ++ B,y.1 ≠ k) : jFc nd A B k = nd k :=
 jM4 (fun a ha e => h a (List.mem_append_left _ (jIx ha)) e.symm) fun c hc e => h c (List.mem_append_right _ (jO8 hc)) e.symm
theorem jWq {off y : Nat} {l : List Nk} {k : Nat} (hk : k ≠ y) (h : ∀ y ∈ l,y.1 ≠ k) : jKc nd b off y l k = nd k:=jSu hk fun a ha e => h a (jIx ha) e.symm
theorem Lk.takeT (h : Lk b nd I (A ++ x :: B) sn) : Lk b (jFc nd A B) I (A ++ B) sn ∧ jLo (jFc nd A B) I (A ++ B) sn x:=by
 have hn1:=jLq h.nodup
 have hap:=jG9 h.nodup
 have hx : ∀ y ∈ A ++ B,y.1 ≠ x.1:=fun y hy => jF9 hn1 (List.mem_append.1 hy)
 refine ⟨⟨jTa h.t hn1,jH2 h.s fun y hy => jMs fun z hz => hap z ((jFg A B x).subset hz) y hy,jMz h.nodup ((jFg A B x).append (List.Sublist.refl _)),fun y hy => h.sub y (((jFg A B x).append (List.Sublist.refl _)).subset hy)⟩,⟨?_,h.sub x (by simp),?_⟩⟩
 ·rw [jMs hx,h.t A x B rfl]
  exact ⟨_,_,_,rfl⟩
 ·intro y hy
  rcases List.mem_append.1 hy with hy | hy
  ·exact hx y hy
  ·exact fun e => hap x (by simp) y hy e.symm
theorem Lk.takeS (h : Lk b nd I tn (A ++ x :: B)) : Lk b (jFc nd A B) I tn (A ++ B) ∧ jLo (jFc nd A B) I tn (A ++ B) x:=by
 have hn1:=jKq h.nodup
 have hap:=jG9 h.nodup
 have hx : ∀ y ∈ A ++ B,y.1 ≠ x.1:=fun y hy => jF9 hn1 (List.mem_append.1 hy)
 refine ⟨⟨jH2 h.t fun y hy => jMs fun z hz e => hap y hy z ((jFg A B x).subset hz) e.symm,jTa h.s hn1,jMz h.nodup ((List.Sublist.refl _).append (jFg A B x)),fun y hy => h.sub y (((List.Sublist.refl _).append (jFg A B x)).subset hy)⟩,⟨?_,h.sub x (by simp),?_⟩⟩
 ·rw [jMs hx,h.s A x B rfl]
  exact ⟨_,_,_,rfl⟩
 ·intro y hy
  rcases List.mem_append.1 hy with hy | hy
  ·exact hap y hy x (by simp)
  ·exact hx y hy
theorem Lk.putT (h : Lk b nd I tn sn) (hx : jLo nd I tn sn x) : Lk b (jKc nd b 2 x.1 tn) I (tn ++ [x]) sn:=by
 obtain ⟨i,p,q,hc⟩:=hx.cells
 have hap:=jG9 h.nodup
 have hp : (tn ++ [x] ++ sn).Perm (x :: (tn ++ sn)):=by
  rw [List.append_assoc]
  exact List.perm_middle
 have hn : (ids (tn ++ [x] ++ sn)).Nodup:=by
  refine (hp.map Prod.fst).nodup_iff.2 (List.nodup_cons.2 ⟨fun hm => ?_,h.nodup⟩)
  obtain ⟨y,hy,e⟩:=List.mem_map.1 hm
  exact hx.out y hy e
 refine ⟨jU7 h.t (jLq hn) hc,jH2 h.s fun y hy => jWq (hx.out y (List.mem_append_right _ hy)) fun z hz => hap z hz y hy,hn,fun y hy => ?_⟩
 rcases List.mem_cons.1 (hp.subset hy) with rfl | hy
 ·exact hx.mem
 ·exact h.sub y hy
theorem Lk.putS (h : Lk b nd I tn sn) (hx : jLo nd I tn sn x) : Lk b (jKc nd b 5 x.1 sn) I tn (sn ++ [x]):=by
 obtain ⟨i,p,q,hc⟩:=hx.cells
 have hap:=jG9 h.nodup
 have hp : (tn ++ (sn ++ [x])).Perm (x :: (tn ++ sn)):=by
  rw [← List.append_assoc]
  exact List.perm_append_comm
 have hn : (ids (tn ++ (sn ++ [x]))).Nodup:=by
  refine (hp.map Prod.fst).nodup_iff.2 (List.nodup_cons.2 ⟨fun hm => ?_,h.nodup⟩)
  obtain ⟨y,hy,e⟩:=List.mem_map.1 hm
  exact hx.out y hy e
 refine ⟨jH2 h.t fun y hy => jWq (hx.out y (List.mem_append_left _ hy)) fun z hz e => hap y hy z hz e.symm,jU7 h.s (jKq hn) hc,hn,fun y hy => ?_⟩
 rcases List.mem_cons.1 (hp.subset hy) with rfl | hy
 ·exact hx.mem
 ·exact h.sub y hy
end
structure Lst (F : Nat → Prop) (w0 w : World) (b : Nat) (m : Int) (bm : Nat) (I : List Nat) (nd : Nat → Array Value) (tn sn : List Nk) (R : jAd) : Prop where
 row : jBi F w0 w b (jC0 m bm tn sn) I nd R
 lk : Lk b nd I tn sn
 small : tn.length + sn.length ≤ maxLen
section
variable {F : Nat → Prop} {w0 w : World} {b : Nat} {m : Int} {bm : Nat} {I : List Nat} {nd : Nat → Array Value} {tn sn A B : List Nk} {x : Nk} {R : jAd}
theorem jYc (H : Lst F w0 w b m bm I nd (A ++ x :: B) sn R) : Calls Tryz.prog 132 #[.pointer (some ⟨b,2,none⟩),.pointer (some ⟨x.1,0,none⟩)] w fun e w' => e = .returned (.tuple #[]) ∧ ∃ nd',Lst F w0 w' b m bm I nd' (A ++ B) sn R ∧ jLo nd' I (A ++ B) sn x:=by
 have hn1:=jLq H.lk.nodup
 have hs:=H.small
 simp at hs
 refine (jQ1 (A:=A) (B:=B) (s:=x.2) H.row (fun _ => ⟨_,rfl⟩) (fun _ => ⟨_,rfl⟩) (by simp [jC0];omega) (by omega) (H.lk.sub x (by simp)) (fun y hy => H.lk.sub y (List.mem_append_left _ ((jFg A B x).subset hy))) (fun y hy => jF9 hn1 (List.mem_append.1 hy)) (jG9 (jMz hn1 (jFg A B x))) (H.lk.t A x B rfl) (fun y hy => jLs H.lk.t y ((jFg A B x).subset hy))).mono ?_
 rintro e w' ⟨rfl,H'⟩
 rw [kD8] at H'
 obtain ⟨k1,k2⟩:=H.lk.takeT
 exact ⟨rfl,_,⟨H',k1,by simp;omega⟩,k2⟩
theorem jQ7 (H : Lst F w0 w b m bm I nd tn (A ++ x :: B) R) : Calls Tryz.prog 132 #[.pointer (some ⟨b,5,none⟩),.pointer (some ⟨x.1,0,none⟩)] w fun e w' => e = .returned (.tuple #[]) ∧ ∃ nd',Lst F w0 w' b m bm I nd' tn (A ++ B) R ∧ jLo nd' I tn (A ++ B) x:=by
 have hn1:=jKq H.lk.nodup
 have hs:=H.small
 simp at hs
 refine (jQ1 (A:=A) (B:=B) (s:=x.2) H.row (fun _ => ⟨_,rfl⟩) (fun _ => ⟨_,rfl⟩) (by simp [jC0];omega) (by omega) (H.lk.sub x (by simp)) (fun y hy => H.lk.sub y (List.mem_append_right _ ((jFg A B x).subset hy))) (fun y hy => jF9 hn1 (List.mem_append.1 hy)) (jG9 (jMz hn1 (jFg A B x))) (H.lk.s A x B rfl) (fun y hy => jLs H.lk.s y ((jFg A B x).subset hy))).mono ?_
 rintro e w' ⟨rfl,H'⟩
 rw [kEc] at H'
 obtain ⟨k1,k2⟩:=H.lk.takeS
 exact ⟨rfl,_,⟨H',k1,by simp;omega⟩,k2⟩
theorem kBl (H : Lst F w0 w b m bm I nd tn sn R) (hx : jLo nd I tn sn x) (hs : tn.length + sn.length < maxLen) : Calls Tryz.prog 133 #[.pointer (some ⟨b,2,none⟩),.pointer (some ⟨x.1,0,none⟩)] w fun e w' => e = .returned (.tuple #[]) ∧ ∃ nd',Lst F w0 w' b m bm I nd' (tn ++ [x]) sn R:=by
 obtain ⟨i,p,q,hc⟩:=hx.cells
 refine (jQr (l:=tn) (s:=x.2) H.row ⟨rfl,rfl,rfl⟩ (by omega) hx.mem (fun y hy => H.lk.sub y (List.mem_append_left _ hy)) (fun y hy => hx.out y (List.mem_append_left _ hy)) hc (jLs H.lk.t)).mono ?_
 rintro e w' ⟨rfl,H'⟩
 rw [kHi] at H'
 exact ⟨rfl,_,H',H.lk.putT hx,by simp;omega⟩
theorem kBo (H : Lst F w0 w b m bm I nd tn sn R) (hx : jLo nd I tn sn x) (hs : tn.length + sn.length < maxLen) : Calls Tryz.prog 133 #[.pointer (some ⟨b,5,none⟩),.pointer (some ⟨x.1,0,none⟩)] w fun e w' => e = .returned (.tuple #[]) ∧ ∃ nd',Lst F w0 w' b m bm I nd' tn (sn ++ [x]) R:=by
 obtain ⟨i,p,q,hc⟩:=hx.cells
 refine (jQr (l:=sn) (s:=x.2) H.row ⟨rfl,rfl,rfl⟩ (by omega) hx.mem (fun y hy => H.lk.sub y (List.mem_append_right _ hy)) (fun y hy => hx.out y (List.mem_append_right _ hy)) hc (jLs H.lk.s)).mono ?_
 rintro e w' ⟨rfl,H'⟩
 rw [kGm] at H'
 exact ⟨rfl,_,H',H.lk.putS hx,by simp;omega⟩
end
theorem jPu {b o1 o2 x : Nat} {w : World} {Q1 Q2 : World → Prop} (hc : w.cell? ⟨x,1,none⟩ = some (.pointer (some ⟨b,o1,none⟩)))
  (h1 : Calls Tryz.prog 132 #[.pointer (some ⟨b,o1,none⟩),.pointer (some ⟨x,0,none⟩)] w fun e w' => e = .returned (.tuple #[]) ∧ Q1 w')
  (h2 : ∀ w1,Q1 w1 → Calls Tryz.prog 133 #[.pointer (some ⟨b,o2,none⟩),.pointer (some ⟨x,0,none⟩)] w1 fun e w' => e = .returned (.tuple #[]) ∧ Q2 w') :
  Calls Tryz.prog 93 #[.pointer (some ⟨x,0,none⟩),.pointer (some ⟨b,o2,none⟩)] w fun e w' => e = .returned (.tuple #[]) ∧ Q2 w':=by
 go_enter Tryz.func93,Tryz.ntmps93
 go_wp2_with (first | (go_at_call 132;refine h1.mono ?_;rintro e w1 ⟨rfl,q1⟩) | (go_at_call 133;refine (h2 _ q1).mono ?_;rintro e w2 ⟨rfl,q2⟩))
 go_end0
 exact ⟨rfl,q2⟩
section
variable {F : Nat → Prop} {w0 w : World} {b : Nat} {m : Int} {bm : Nat} {I : List Nat} {nd : Nat → Array Value} {tn sn A B : List Nk} {x : Nk} {R : jAd}
theorem kIs (H : Lst F w0 w b m bm I nd (A ++ x :: B) sn R) : Calls Tryz.prog 93 #[.pointer (some ⟨x.1,0,none⟩),.pointer (some ⟨b,5,none⟩)] w fun e w' => e = .returned (.tuple #[]) ∧ ∃ nd',Lst F w0 w' b m bm I nd' (A ++ B) (sn ++ [x]) R:=by
 have hs:=H.small
 simp at hs
 exact jPu (H.row.node (H.lk.sub x (by simp)) (by rw [H.lk.t A x B rfl];rfl)) (jYc H) fun w1 ⟨nd1,H1,hx⟩ => kBo H1 hx (by simp;omega)
theorem kGz (H : Lst F w0 w b m bm I nd tn (A ++ x :: B) R) : Calls Tryz.prog 93 #[.pointer (some ⟨x.1,0,none⟩),.pointer (some ⟨b,5,none⟩)] w fun e w' => e = .returned (.tuple #[]) ∧ ∃ nd',Lst F w0 w' b m bm I nd' tn (A ++ B ++ [x]) R:=by
 have hs:=H.small
 simp at hs
 exact jPu (H.row.node (H.lk.sub x (by simp)) (by rw [H.lk.s A x B rfl];rfl)) (jQ7 H) fun w1 ⟨nd1,H1,hx⟩ => kBo H1 hx (by simp;omega)
theorem kE8 (H : Lst F w0 w b m bm I nd tn (A ++ x :: B) R) : Calls Tryz.prog 93 #[.pointer (some ⟨x.1,0,none⟩),.pointer (some ⟨b,2,none⟩)] w fun e w' => e = .returned (.tuple #[]) ∧ ∃ nd',Lst F w0 w' b m bm I nd' (tn ++ [x]) (A ++ B) R:=by
 have hs:=H.small
 simp at hs
 exact jPu (H.row.node (H.lk.sub x (by simp)) (by rw [H.lk.s A x B rfl];rfl)) (jQ7 H) fun w1 ⟨nd1,H1,hx⟩ => kBl H1 hx (by simp;omega)
end
end
end Go.Proofs.YtkfeafmpaodagaaGreatDoor
