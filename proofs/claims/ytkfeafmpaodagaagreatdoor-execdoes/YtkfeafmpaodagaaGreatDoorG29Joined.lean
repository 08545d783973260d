/- The document's own Mix, Of and Below: the same answers. Conditions: numbers are of 64 bits, a text takes at most 140737488351232 bytes. What the document's own filter answers: its places stand in a slice, in the order in which they were set. Conditions: texts take at most 140737488351232 bytes. The document's own filter, when a text is added: the places that were not set come behind those that were. Conditions: texts take at most 140737488351232 bytes. What the document's own sketch answers: its counters stand in a row of 256 numbers. Conditions: texts take at most 140737488351232 bytes. The document's own sketch, when a text is counted. Conditions: texts take at most 140737488351232 bytes. What the document's own judge answers, over the document's own filter and sketch. Conditions: texts take at most 140737488351232 bytes. -/
import Derived.Test.YtkfeafmpaodagaaGreatDoorG05Joined
import Derived.Test.YtkfeafmpaodagaaGreatDoorG07Joined
import Derived.Laws.OwnMore
import Derived.Maps.AppendAt
import Derived.Test.YtkfeafmpaodagaaGreatDoorG08Joined
import Derived.Laws.Tables
import Derived.Laws.Rows
import Derived.Deep.QuietTactic
import Derived.BigQuiet
import Derived.BigRegion
import Derived.Test.YtkfeafmpaodagaaGreatDoorG03Joined
namespace Go.Proofs.YtkfeafmpaodagaaGreatDoor
set_option maxHeartbeats 16000000
section
open Go.RowKit
theorem jYm (n : Nat) (h : n < 18446744073709551616) (w : World) : Calls Tryz.prog 204 #[.int .u64 n] w fun e w' => e = .returned (.int .u64 (jIt n)) ∧ w = w':=by
 go_enter Tryz.func204,Tryz.ntmps204
 go_wp2
 go_ret
 rw [← jYt n h]
 exact ⟨rfl,rfl⟩
theorem kBn (seed : Nat) (h : seed < 18446744073709551616) (s : ByteArray) (hs : s.size ≤ 140737488351232) (w : World) : Calls Tryz.prog 173 #[.int .u64 seed,.string s] w fun e w' => e = .returned (.int .u64 (ofN seed s.data.toList)) ∧ w = w':=by
 have HL : Hid (s.data.toList.length = s.size):=rfl
 go_enter Tryz.func173,Tryz.ntmps173
 go_wp2_with (go_at_call 204;refine (jYm _ (by assumption) _).mono ?_;rintro e w1 ⟨rfl,rfl⟩)
 go_loop [5,6] (fun x i => ∃ (k m : Nat),k ≤ s.size ∧ m < 18446744073709551616 ∧ i = .int .i64 k ∧ x = .int .u64 m ∧ Hid (jJq (jIt seed) s.data.toList = jJq m (s.data.toList.drop k)))
  (fun _ i => s.size - (intOf i).toNat)
 case atStart => exact ⟨0,jIt seed,Nat.zero_le _,jYx _,rfl,rfl,rfl⟩
 case round =>
  obtain ⟨k,m,hk,hm,rfl,rfl,HR⟩:=hrel
  by_cases hlt : k < s.size
  ·have HS : Hid (jJq (jIt seed) s.data.toList = jJq (jP2 m (s[k]'hlt)) (s.data.toList.drop (k + 1))):=by
    show _ = _
    rw [HR.out]
    exact jWt s.data.toList k hlt m
   have hw:=jAa (jUk m hm (s[k]'hlt))
   go_wp2
   go_round
   case rel => exact ⟨k + 1,_,by omega,kBr _ _,by go_num,by rw [← hw.out],HS⟩
   case measure => simp [intOf];omega
  ·have HE : Hid (jJq (jIt seed) s.data.toList = m):=by
    show _ = _
    rw [HR.out]
    exact kA5 s.data.toList k (by rw [HL.out];omega) m
   go_wp2_with (go_at_call 204;refine (jYm _ (by assumption) _).mono ?_;rintro e w1 ⟨rfl,rfl⟩)
   go_ret
   exact ⟨by unfold ofN;rw [HE.out];rfl,rfl⟩
theorem jS8 (h : Nat) (hh : h < 18446744073709551616) (n : Int) (h0 : -9223372036854775808 ≤ n) (h1 : n < 9223372036854775808) (w : World) : Calls Tryz.prog 172 #[.int .u64 h,.int .i64 n] w fun e w' => e = .returned (.int .i64 (jFi h n)) ∧ w = w':=by
 unfold jFi
 by_cases hn : n < 1
 ·rw [if_pos hn]
  go_enter Tryz.func172,Tryz.ntmps172
  go_wp2
  go_ret
  exact ⟨rfl,rfl⟩
 ·rw [if_neg hn]
  have r0 : 0 ≤ (h : Int) % n:=Int.emod_nonneg _ (by omega)
  have r1 : (h : Int) % n < n:=Int.emod_lt_of_pos _ (by omega)
  have r2 : (h : Int) % n < 9223372036854775808:=by omega
  go_enter Tryz.func172,Tryz.ntmps172
  go_wp2
  go_ret
  exact ⟨rfl,rfl⟩
end
section
open Go.RowKit
set_option maxRecDepth 100000
def jL6 (S : List Nat) : List Value:=S.map fun p : Nat => .int .i64 (p : Int)
def jF7 (n0 : Nat) (w : World) (c sd : Nat) (S : List Nat) (v : Value) : Prop :=
 w.heap[c]? = some (.cells #[.int .u64 sd,v] 122 (0,0)) ∧ w.ownsRow n0 3 1 v S.length (jL6 S)
theorem jF7.seed {n0 c sd : Nat} {w : World} {S : List Nat} {v : Value} (h : jF7 n0 w c sd S v) : w.cell? ⟨c,0,none⟩ = some (.int .u64 sd):=by simp [World.cell?,h.1]
theorem jF7.set {n0 c sd : Nat} {w : World} {S : List Nat} {v : Value} (h : jF7 n0 w c sd S v) : w.cell? ⟨c,1,none⟩ = some v:=by simp [World.cell?,h.1]
theorem jF7.free {n0 c sd : Nat} {w : World} {S : List Nat} {v : Value} (h : jF7 n0 w c sd S v) : w.frozen? ⟨c,1,none⟩ = false:=by simp [World.frozen?,h.1]
theorem jF7.lt {n0 c sd : Nat} {w : World} {S : List Nat} {v : Value} (h : jF7 n0 w c sd S v) : c < w.heap.size:=(Array.getElem?_eq_some_iff.1 h.1).1
theorem kEt {w : World} {n0 : Nat} {S : List Nat} {v : Value} (h : w.ownsRow n0 3 1 v S.length (jL6 S)) :
  ∃ a cap,v = .slice a S.length cap ∧ ∀ j (hj : j < S.length),∃ g,a = some ⟨g,0,none⟩ ∧ w.cell? ⟨g,j,none⟩ = some (.int .i64 S[j]):=by
 rcases h.2 with ⟨hv,h0⟩ | ⟨g,cap,cur,hv,hr⟩
 ·refine ⟨none,0,by rw [hv,h0],fun j hj => ?_⟩
  omega
 ·refine ⟨some ⟨g,0,none⟩,cap,hv,fun j hj => ⟨g,rfl,?_⟩⟩
  rw [hv] at h
  rw [h.cellAt j (by omega)]
  unfold jL6
  rw [List.getElem?_map,List.getElem?_eq_getElem hj]
  rfl
theorem jMv (sd : Nat) (s : ByteArray) (hs : s.size ≤ 140737488351232) (k : Nat) (hk : k < 3) (w : World) :
  Calls Tryz.prog 144 #[.int .u64 sd,.string s,.int .i64 k] w fun e w' => e = .returned (.int .i64 (jB0 sd s.data.toList k)) ∧ w = w':=by
 obtain ⟨z,hz⟩ : ∃ z : Nat,z = (sd + k) % 18446744073709551616:=⟨_,rfl⟩
 have hzl : z < 18446744073709551616:=by omega
 have HW : Hid (IntKind.u64.wrap ((sd : Int) + (k : Int)) = (z : Int)):=by
  rw [hz,IntKind.wrap_u64]
  show ((sd : Int) + (k : Int)) % 18446744073709551616 = _
  omega
 have HP : Hid (jFi (ofN z s.data.toList) 512 = ((jB0 sd s.data.toList k : Nat) : Int)):=by
  unfold jFi jB0
  rw [hz,if_neg (by decide)]
  show _ = _
  omega
 have ho:=jP8 z s.data.toList
 clear hz
 go_enter Tryz.func144,Tryz.ntmps144
 go_wp2_with (first
  | (go_at_call 173;rw [HW.out];refine (kBn z hzl s hs _).mono ?_;rintro e w1 ⟨rfl,rfl⟩)
  | (go_at_call 172;refine (jS8 _ ho 512 (by decide) (by decide) _).mono ?_;rintro e w1 ⟨he,rfl⟩;rw [HP.out] at he;subst he))
 go_ret
 exact ⟨rfl,rfl⟩
theorem kFi {n0 c sd : Nat} {w : World} {S : List Nat} {v : Value} (h : jF7 n0 w c sd S v) (hl : S.length ≤ 100000) (p : Nat) :
  Calls Tryz.prog 145 #[.pointer (some ⟨c,0,none⟩),.int .i64 p] w fun e w' => e = .returned (.bool (decide (p ∈ S))) ∧ w = w':=by
 have hset:=h.set
 obtain ⟨a,cap,rfl,hcell⟩:=kEt h.2
 obtain ⟨n,hn⟩ : ∃ n,S.length = n:=⟨_,rfl⟩
 have HN:=jAa hn
 have HC:=jAa hcell
 rw [hn] at hset hl
 clear h hcell hn
 go_enter Tryz.func145,Tryz.ntmps145
 go_wp2
 go_loop [5] (fun i => ∃ k : Nat,k ≤ n ∧ i = .int .i64 k ∧ Hid (∀ j (hj : j < S.length),j < k → S[j] ≠ p)) (fun i => n - (intOf i).toNat)
 case atStart => exact ⟨0,Nat.zero_le _,rfl,fun j _ h => absurd h (Nat.not_lt_zero _)⟩
 case round =>
  obtain ⟨k,hk,rfl,HK⟩:=hrel
  by_cases hlt : k < n
  ·have hkS : k < S.length:=by rw [HN.out];exact hlt
   obtain ⟨g,rfl,hc⟩:=HC.out k hkS
   obtain ⟨q,hq⟩ : ∃ q : Nat,q = S[k]:=⟨_,rfl⟩
   rw [← hq] at hc
   by_cases he : q = p
   ·have HR : Hid (decide (p ∈ S) = true):=decide_eq_true (by rw [← he,hq];exact List.getElem_mem _)
    subst he
    clear hq
    go_wp2
    go_ret
    exact ⟨by rw [HR.out];rfl,rfl⟩
   ·have hne : ((q : Int) == (p : Int)) = false:=beq_eq_false_iff_ne.2 (by omega)
    have HS : Hid (∀ j (hj : j < S.length),j < k + 1 → S[j] ≠ p):=by
     intro j hj hjk
     by_cases e : j = k
     ·subst e;rw [← hq];exact he
     ·exact HK.out j hj (by omega)
    clear hq
    go_wp2
    go_round
    case rel => exact ⟨k + 1,by omega,by go_num,HS⟩
    case measure => simp [intOf];omega
  ·have HR : Hid (decide (p ∈ S) = false):=decide_eq_false fun hm => by
    obtain ⟨j,hj,e⟩:=List.mem_iff_getElem.1 hm
    exact HK.out j hj (by have:=HN.out;omega) e
   go_wp2
   go_ret
   exact ⟨by rw [HR.out];rfl,rfl⟩
theorem jUw {n0 c sd : Nat} {w : World} {S : List Nat} {v : Value} (h : jF7 n0 w c sd S v) (hl : S.length ≤ 100000) (s : ByteArray) (hs : s.size ≤ 140737488351232) :
  Calls Tryz.prog 143 #[.pointer (some ⟨c,0,none⟩),.string s] w fun e w' => e = .returned (.bool (jDz S (pls sd s.data.toList))) ∧ w = w':=by
 have hseed:=h.seed
 have HI:=jAa (fun p => kFi h hl p)
 go_enter Tryz.func143,Tryz.ntmps143
 go_wp2
 go_loop [5] (fun i => ∃ k : Nat,k ≤ 3 ∧ i = .int .i64 k ∧ Hid (jDz S (pls sd s.data.toList) = jDz S ((pls sd s.data.toList).drop k))) (fun i => 3 - (intOf i).toNat)
 case atStart => exact ⟨0,Nat.zero_le _,rfl,rfl⟩
 case round =>
  obtain ⟨k,hk,rfl,HK⟩:=hrel
  by_cases hlt : k < 3
  ·have HD : Hid ((pls sd s.data.toList).drop k = jB0 sd s.data.toList k :: (pls sd s.data.toList).drop (k + 1)):=by
    have : k = 0 ∨ k = 1 ∨ k = 2:=by omega
    rcases this with rfl | rfl | rfl <;> rfl
   obtain ⟨p,hp⟩ : ∃ p,jB0 sd s.data.toList k = p:=⟨_,rfl⟩
   have HP:=jAa hp
   by_cases hm : p ∈ S
   ·have HS : Hid (jDz S (pls sd s.data.toList) = jDz S ((pls sd s.data.toList).drop (k + 1))):=by
     show _ = _
     rw [HK.out,HD.out,HP.out]
     unfold jDz
     rw [List.all_cons,decide_eq_true hm,Bool.true_and]
    have HM:=jAa (decide_eq_true hm)
    clear hp hm
    go_wp2_with (first
     | (go_at_call 144;refine (jMv sd s hs k hlt _).mono ?_;rintro e w1 ⟨he,rfl⟩;rw [HP.out] at he;subst he)
     | (go_at_call 145;refine (HI.out p).mono ?_;rintro e w1 ⟨he,rfl⟩;rw [HM.out] at he;subst he))
    go_round
    case rel => exact ⟨k + 1,by omega,by go_num,HS⟩
    case measure => simp [intOf];omega
   ·have HS : Hid (jDz S (pls sd s.data.toList) = false):=by
     show _ = _
     rw [HK.out,HD.out,HP.out]
     unfold jDz
     rw [List.all_cons,decide_eq_false hm,Bool.false_and]
    have HM:=jAa (decide_eq_false hm)
    clear hp hm
    go_wp2_with (first
     | (go_at_call 144;refine (jMv sd s hs k hlt _).mono ?_;rintro e w1 ⟨he,rfl⟩;rw [HP.out] at he;subst he)
     | (go_at_call 145;refine (HI.out p).mono ?_;rintro e w1 ⟨he,rfl⟩;rw [HM.out] at he;subst he))
    go_ret
    exact ⟨by rw [HS.out];rfl,rfl⟩
  ·obtain rfl : k = 3:=by omega
   go_wp2
   go_ret
   exact ⟨by rw [HK.out];rfl,rfl⟩
end
section
open Go.RowKit
set_option maxRecDepth 100000
theorem jYu {w : World} {c : Nat} {t : TypeId} {x v : Value} (h : w.heap[c]? = some (.cells #[x,v] t (0,0))) (v' : Value) : (w.setCell ⟨c,1,none⟩ v').heap[c]? = some (.cells #[x,v'] t (0,0)) :=
 heap_setCell_same w c 1 #[x,v] t v' h
theorem kMp {n0 c sd p : Nat} {W w1 : World} {S : List Nat} {v v' : Value} {tmp : Obj} (h : jF7 n0 W c sd S v) (hvc : v.ownBlock ≠ some c)
  (hown' : w1.ownsRow n0 3 1 v' (S.length + 1) (jL6 S ++ [.int .i64 (p : Int)])) (hgrow : (W.alloc tmp).grownBy w1 v.ownBlock) (hat : v'.ownBlock = v.ownBlock ∨ v'.ownBlock = some (W.alloc tmp).heap.size) :
  w1.cell? ⟨c,1,none⟩ = some v ∧ w1.frozen? ⟨c,1,none⟩ = false ∧ jF7 n0 (w1.setCell ⟨c,1,none⟩ v') c sd (S ++ [p]) v' ∧ v'.ownBlock ≠ some c ∧
   Gr (fun k => k = c ∨ v.ownBlock = some k) W (w1.setCell ⟨c,1,none⟩ v') ∧ (∀ k,v'.ownBlock = some k → v.ownBlock = some k ∨ W.heap.size ≤ k):=by
 have hc:=h.lt
 have hca : c < (W.alloc tmp).heap.size:=by rw [World.size_alloc];omega
 have h1 : w1.heap[c]? = some (.cells #[.int .u64 sd,v] 122 (0,0)):=by
  rw [hgrow.block c hca (fun e => hvc e.symm),Below.heap_alloc _ _ _ hc]
  exact h.1
 have hv' : v'.ownBlock ≠ some c:=by
  rcases hat with e | e
  ·rw [e];exact hvc
  ·rw [e];intro e';cases e';omega
 refine ⟨by simp [World.cell?,h1],by simp [World.frozen?,h1],⟨jYu h1 v',?_⟩,hv',?_,?_⟩
 ·have h2:=ownsRow_setCell_other hown' (a:=⟨c,1,none⟩) hv' v'
  have e1 : (S ++ [p]).length = S.length + 1:=by simp
  have e2 : jL6 (S ++ [p]) = jL6 S ++ [.int .i64 (p : Int)]:=by unfold jL6;simp
  rw [e1,e2]
  exact h2
 ·refine ⟨hgrow.1,hgrow.2,hgrow.3,?_,fun k hk hr => ?_⟩
  ·have:=hgrow.4
   rw [World.size_alloc] at this
   rw [World.size_setCell]
   omega
  ·rw [heap_setCell_other _ _ _ _ (fun e => hr (.inl e)),hgrow.block k (by rw [World.size_alloc];omega) (fun e => hr (.inr e.symm)),Below.heap_alloc _ _ _ hk]
 ·intro k hk
  rcases hat with e | e
  ·left;rw [← e];exact hk
  ·right
   rw [e] at hk
   cases hk
   rw [World.size_alloc]
   omega
theorem kFr {W : World} {base : Nat} {e : TypeId} {size : Nat} {v : Value} {k : Nat} {xs : List Value} (h : W.ownsRow base e size v k xs) (hk : 0 < k) : ∃ g cap,v = .slice (some ⟨g,0,none⟩) k cap:=by
 rcases h.2 with ⟨_,h0⟩ | ⟨g,cap,_,rfl,_⟩
 ·omega
 ·exact ⟨g,cap,rfl⟩
theorem kIg : (Tryz.prog.info? 3).map (fun i => (i.zero,i.size,i.bytes)) = some (some (.int .i64 0),1,8):=by kernel_rfl
theorem kLw {n0 c sd : Nat} {w : World} {S : List Nat} {v : Value} (h : jF7 n0 w c sd S v) (hvc : v.ownBlock ≠ some c) (hn0 : n0 ≤ w.heap.size) (hl : S.length ≤ 10000) (s : ByteArray) (hs : s.size ≤ 140737488351232) :
  Calls Tryz.prog 105 #[.pointer (some ⟨c,0,none⟩),.string s] w fun e w' => e = .returned (.bool (jDz S (pls sd s.data.toList))) ∧ ∃ v',jF7 n0 w' c sd (jDs S (pls sd s.data.toList)) v' ∧ v'.ownBlock ≠ some c ∧
   Gr (fun k => k = c ∨ v.ownBlock = some k) w w' ∧ (∀ k,v'.ownBlock = some k → v.ownBlock = some k ∨ w.heap.size ≤ k):=by
 obtain ⟨i0,hi,hz0,hz1,hz2⟩:=info_parts kIg
 obtain ⟨r,hr⟩ : ∃ r,jDz S (pls sd s.data.toList) = r:=⟨_,rfl⟩
 have HR:=jAa hr
 clear hr
 go_enter Tryz.func105,Tryz.ntmps105
 go_wp2_with (go_at_call 143;refine (jUw h (by omega) s hs).mono ?_;rintro e w1 ⟨he,rfl⟩;rw [HR.out] at he;subst he)
 go_loopw [6] (fun i wr => ∃ (k : Nat) (T : List Nat) (u : Value),k ≤ 3 ∧ i = .int .i64 k ∧ T.length ≤ S.length + k ∧ Hid (jDs S (pls sd s.data.toList) = jDs T ((pls sd s.data.toList).drop k)) ∧ jF7 n0 wr c sd T u ∧ u.ownBlock ≠ some c ∧ n0 ≤ wr.heap.size ∧
   Gr (fun k => k = c ∨ v.ownBlock = some k) w wr ∧ (∀ k,u.ownBlock = some k → v.ownBlock = some k ∨ w.heap.size ≤ k)) (fun i _ => 3 - (intOf i).toNat)
 case atStart => exact ⟨0,S,v,Nat.zero_le _,rfl,Nat.le_refl _,rfl,h,hvc,hn0,Gr.refl _ _,fun k hk => .inl hk⟩
 case round =>
  clear h hvc hn0
  obtain ⟨k,T,u,hk,rfl,hT,HK,h,huc,hn0,hg,hu⟩:=hrel
  by_cases hlt : k < 3
  ·have HD : Hid ((pls sd s.data.toList).drop k = jB0 sd s.data.toList k :: (pls sd s.data.toList).drop (k + 1)):=by
    have : k = 0 ∨ k = 1 ∨ k = 2:=by omega
    rcases this with rfl | rfl | rfl <;> rfl
   obtain ⟨p,hp⟩ : ∃ p,jB0 sd s.data.toList k = p:=⟨_,rfl⟩
   have HP:=jAa hp
   have hseed:=h.seed
   have hset:=h.set
   have HI:=jAa (fun p => kFi h (by omega) p)
   by_cases hm : p ∈ T
   ·have HS : Hid (jDs S (pls sd s.data.toList) = jDs T ((pls sd s.data.toList).drop (k + 1))):=by
     show _ = _
     rw [HK.out,HD.out,HP.out]
     show jDs (jJd T p) _ = _
     rw [show jJd T p = T from if_pos hm]
    have HM:=jAa (decide_eq_true hm)
    clear hp hm
    go_wp2_with (first
     | (go_at_call 144;refine (jMv sd s hs k hlt _).mono ?_;rintro e w1 ⟨he,rfl⟩;rw [HP.out] at he;subst he)
     | (go_at_call 145;refine (HI.out p).mono ?_;rintro e w1 ⟨he,rfl⟩;rw [HM.out] at he;subst he))
    go_roundw
    case rel => exact ⟨k + 1,T,u,by omega,by go_num,by omega,HS,h,huc,hn0,hg,hu⟩
    case measure => simp [intOf];omega
   ·have HS : Hid (jDs S (pls sd s.data.toList) = jDs (T ++ [p]) ((pls sd s.data.toList).drop (k + 1))):=by
     show _ = _
     rw [HK.out,HD.out,HP.out]
     show jDs (jJd T p) _ = _
     rw [show jJd T p = T ++ [p] from if_neg hm]
    have HM:=jAa (decide_eq_false hm)
    have HRow:=jAa h.2
    clear hp hm
    go_wp2_with (first
     | (go_at_call 144;refine (jMv sd s hs k hlt _).mono ?_;rintro e w1 ⟨he,rfl⟩;rw [HP.out] at he;subst he)
     | (go_at_call 145;refine (HI.out p).mono ?_;rintro e w1 ⟨he,rfl⟩;rw [HM.out] at he;subst he)
     | (at_builtin;refine wpList_append_own_at _ rfl _ _ 100 rfl n0 3 i0 (.int .i64 0) 1 8 Tryz.underlying100 hi hz0 hz1 hz2 rfl (by decide) _ _ _ rfl (HRow.out.alloc _) ⟨_,0,none⟩ 1 1 [_] rfl rfl (cell_one_new _ _ _) (by simp [Value.oneCell']) (by unfold maxLen;omega) (by omega) (by simp;omega) ?_;intro v' w1 hown' hgrow _ hat;obtain ⟨g',cap',rfl⟩:=kFr hown' (by omega);obtain ⟨c1,c2,h2,h3,h4,h5⟩:=kMp h huc hown' hgrow hat))
    go_roundw
    case rel => exact ⟨k + 1,T ++ [p],_,by omega,by go_num,by simp;omega,HS,h2,h3,by have:=h4.size;omega,hg.then h4 (fun i hi hF => hF.elim .inl (fun e => (hu i e).elim .inr (fun hh => by omega))),fun i hi => (h5 i hi).elim (fun e => hu i e) (fun e => .inr (by have:=hg.size;omega))⟩
    case measure => simp [intOf];omega
  ·obtain rfl : k = 3:=by omega
   have HE : Hid (jDs S (pls sd s.data.toList) = T):=HK.out
   go_wp2
   go_ret
   rw [HE.out,HR.out]
   exact ⟨rfl,u,h,huc,hg,hu⟩
end
section
open Go.RowKit
set_option maxRecDepth 100000
def jLb (C : List Nat) : Array Value:=(C.map fun x : Nat => Value.int .i64 (x : Int)).toArray
structure RSk (w : World) (c g sd : Nat) (st : St) : Prop where
 head : w.heap[c]? = some (.cells #[.int .u64 sd,.slice (some ⟨g,0,none⟩) 256 256,.int .i64 st.2] 163 (0,0))
 row : w.heap[g]? = some (.cells (jLb st.1) 3 (0,0))
 len : st.1.length = 256
 ne : c ≠ g
theorem RSk.seed {w : World} {c g sd : Nat} {st : St} (h : RSk w c g sd st) : w.cell? ⟨c,0,none⟩ = some (.int .u64 sd):=by simp [World.cell?,h.head]
theorem RSk.slice {w : World} {c g sd : Nat} {st : St} (h : RSk w c g sd st) : w.cell? ⟨c,1,none⟩ = some (.slice (some ⟨g,0,none⟩) 256 256):=by simp [World.cell?,h.head]
theorem RSk.age {w : World} {c g sd : Nat} {st : St} (h : RSk w c g sd st) : w.cell? ⟨c,2,none⟩ = some (.int .i64 st.2):=by simp [World.cell?,h.head]
theorem RSk.free {w : World} {c g sd : Nat} {st : St} (h : RSk w c g sd st) : w.frozen? ⟨c,2,none⟩ = false:=by simp [World.frozen?,h.head]
theorem RSk.freeRow {w : World} {c g sd : Nat} {st : St} (h : RSk w c g sd st) (p : Nat) : w.frozen? ⟨g,p,none⟩ = false:=frozen_of_row w g p _ _ h.row
theorem RSk.at {w : World} {c g sd : Nat} {st : St} (h : RSk w c g sd st) (p : Nat) (hp : p < 256) : w.cell? ⟨g,p,none⟩ = some (.int .i64 (st.1.getD p 0)):=by
 have hl : p < st.1.length:=by rw [h.len];exact hp
 rw [cell_of_row w g p _ _ _ h.row]
 simp [jLb,hl,List.getD]
theorem RSk.drewN {w : World} {c g sd : Nat} {st : St} (h : RSk w c g sd st) (k : Nat) : RSk (w.drewN k) c g sd st:=⟨h.head,h.row,h.len,h.ne⟩
theorem jTb {w : World} {c g sd : Nat} {st : St} (hR : RSk w c g sd st) (s : ByteArray) (hs : s.size ≤ 140737488351232) (k : Nat) (hk : k < 4) :
  Calls Tryz.prog 146 #[.pointer (some ⟨c,0,none⟩),.string s,.int .i64 k] w fun e w' => e = .returned (.int .i64 (plc sd s.data.toList k)) ∧ w = w':=by
 obtain ⟨z,hz⟩ : ∃ z : Nat,z = (sd + k) % 18446744073709551616:=⟨_,rfl⟩
 have hzl : z < 18446744073709551616:=by omega
 have hseed:=hR.seed
 have HW : Hid (IntKind.u64.wrap ((sd : Int) + (k : Int)) = (z : Int)):=by
  rw [hz,IntKind.wrap_u64]
  show ((sd : Int) + (k : Int)) % 18446744073709551616 = _
  omega
 obtain ⟨y,hy⟩ : ∃ y : Nat,y = ofN z s.data.toList % 64:=⟨_,rfl⟩
 have hy64 : (y : Int) < 64:=by omega
 have HP : Hid (jFi (ofN z s.data.toList) 64 = (y : Int)):=by
  unfold jFi
  rw [hy,if_neg (by decide)]
  show _ = _
  omega
 have HL : Hid (plc sd s.data.toList k = k * 64 + y):=by
  show _ = _
  unfold plc
  rw [hy,hz]
 have ho:=jP8 z s.data.toList
 have hk4 : (k : Int) < 4:=by omega
 clear hz hy
 go_enter Tryz.func146,Tryz.ntmps146
 go_wp2_with (first
  | (go_at_call 173;rw [HW.out];refine (kBn z hzl s hs _).mono ?_;rintro e w1 ⟨rfl,rfl⟩)
  | (go_at_call 172;refine (jS8 _ ho 64 (by decide) (by decide) _).mono ?_;rintro e w1 ⟨he,rfl⟩;rw [HP.out] at he;subst he))
 go_ret
 refine ⟨?_,rfl⟩
 rw [HL.out]
 go_num
theorem jVo (g p : Nat) (h : (p : Int) < 256) (W : World) : (Instr.indexAt 100 (.slice (some ⟨g,0,none⟩) 256 256) (.int .i64 (p : Int))).run Tryz.prog W = .ok (.pointer (some ⟨g,p,none⟩)) W:=by
 go_simp
theorem kKc : jLb (List.replicate 256 0) = Array.replicate 256 (.int .i64 0):=by
 unfold jLb
 rw [List.map_replicate,List.toArray_replicate]
 rfl
theorem kJ6 (w : World) : (Instr.makeSlice 100 (.int .i64 256) (.int .i64 256)).run Tryz.prog w = .ok (.slice (some ⟨w.heap.size,0,none⟩) 256 256) (w.alloc (.cells (Array.replicate 256 (.int .i64 0)) 3)):=by kernel_rfl
theorem kJ0 (sd : Nat) (w : World) : Calls Tryz.prog 51 #[.int .u64 sd] w fun e w' => e = .returned (.pointer (some ⟨w.heap.size + 1,0,none⟩)) ∧ RSk w' (w.heap.size + 1) w.heap.size sd jOf ∧ w.grownBy w' none:=by
 have hmk:=kJ6
 obtain ⟨R,eR⟩ : ∃ R,R = Array.replicate 256 (Value.int .i64 0):=⟨_,rfl⟩
 have HR : Hid (jLb jOf.1 = R):=by
  show _ = _
  rw [eR]
  exact kKc
 rw [← eR] at hmk
 clear eR
 have h1:=heap_alloc2_new w (.cells R 3) (.cells #[.int .u64 sd,.slice (some ⟨w.heap.size,0,none⟩) 256 256,.int .i64 0] 163)
 have h2:=heap_alloc2_old w (.cells R 3) (.cells #[.int .u64 sd,.slice (some ⟨w.heap.size,0,none⟩) 256 256,.int .i64 0] 163)
 have H1:=jAa h1
 have H2:=jAa h2
 clear h1 h2
 go_enter Tryz.func51,Tryz.ntmps51
 go_wp2
 go_ret
 refine ⟨rfl,⟨H1.out,?_,List.length_replicate,by omega⟩,jAt (World.grownBy_alloc _ _ _) (World.grownBy_alloc _ _ _)⟩
 rw [HR.out]
 exact H2.out
theorem jTe {w v : World} (h : ∃ d,v = w.drewN d) (q : Nat) : ∃ d,v.drewN q = w.drewN d:=by
 obtain ⟨d,rfl⟩:=h
 exact ⟨d + q,World.drewN_drewN _ _ _⟩
def jP6 (C ps : List Nat) (k : Nat) : Nat:=cnt C (ps.take k)
theorem jVe (sd : Nat) (l : List UInt8) (k : Nat) (h : k < 4) : (jDu sd l).take (k + 1) = (jDu sd l).take k ++ [plc sd l k]:=by
 have : k = 0 ∨ k = 1 ∨ k = 2 ∨ k = 3:=by omega
 rcases this with rfl | rfl | rfl | rfl <;> rfl
theorem kCz (C : List Nat) (sd : Nat) (l : List UInt8) (k : Nat) (h : k < 4) : jP6 C (jDu sd l) (k + 1) = min (jP6 C (jDu sd l) k) (C.getD (plc sd l k) 0):=by
 unfold jP6 cnt
 rw [jVe sd l k h,List.foldl_append]
 rfl
theorem kGv (sd : Nat) (l : List UInt8) (k : Nat) (h : k < 4) : plc sd l k < 256:=by
 have:=(kOv sd l k).2
 omega
set_option maxRecDepth 100000 in
theorem kB7 {w : World} {c g sd : Nat} {st : St} (hR : RSk w c g sd st) (s : ByteArray) (hs : s.size ≤ 140737488351232) :
  Calls Tryz.prog 205 #[.pointer (some ⟨c,0,none⟩),.string s] w fun e w' => e = .returned (.int .i64 (cnt st.1 (jDu sd s.data.toList))) ∧ ∃ d,w' = w.drewN d:=by
 go_enter Tryz.func205,Tryz.ntmps205
 go_wp2
 go_loopw [5,6] (fun n i wr => ∃ (k m : Nat),k ≤ 4 ∧ i = .int .i64 k ∧ n = .int .i64 m ∧ m ≤ 15 ∧ Hid (m = jP6 st.1 (jDu sd s.data.toList) k) ∧ RSk wr c g sd st ∧ Hid (∃ d,wr = w.drewN d)) (fun _ i _ => 4 - (intOf i).toNat)
 case atStart => exact ⟨0,15,by omega,rfl,rfl,by omega,rfl,hR,0,rfl⟩
 case round =>
  clear hR
  obtain ⟨k,m,hk,rfl,rfl,hm,HM,hRd,HD⟩:=hrel
  by_cases hlt : k < 4
  ·have hp:=kGv sd s.data.toList k hlt
   have hsl:=hRd.slice
   have hat:=hRd.at _ hp
   have HS:=jAa (kCz st.1 sd s.data.toList k hlt)
   have HC : ∀ q : Nat,Calls Tryz.prog 146 #[.pointer (some ⟨c,0,none⟩),.string s,.int .i64 k] (wr.drewN q) fun e w' => e = .returned (.int .i64 (plc sd s.data.toList k)) ∧ w' = wr.drewN q:=fun q => (jTb (hRd.drewN q) s hs k hlt).mono fun _ _ h => ⟨h.1,h.2.symm⟩
   have hix:=jVo g (plc sd s.data.toList k) (by omega)
   generalize plc sd s.data.toList k = p at *
   generalize st.1.getD p 0 = x at *
   clear hp
   by_cases hxm : x < m
   ·have hxi : (x : Int) < (m : Int):=by omega
    have HM2 : Hid (x = jP6 st.1 (jDu sd s.data.toList) (k + 1)):=by
     show _ = _
     rw [HS.out,← HM.out]
     omega
    clear HM HS
    go_wp2
    go_quiet ((go_at_call 146;exact Calls.quiet_of_same (HC _)))
    go_wp2
    go_roundw
    case rel => exact ⟨k + 1,x,by omega,by go_num,rfl,by omega,HM2,hRd.drewN nq,jTe HD.out nq⟩
    case measure => simp [intOf];omega
   ·have hxi : (m : Int) ≤ (x : Int):=by omega
    have HM2 : Hid (m = jP6 st.1 (jDu sd s.data.toList) (k + 1)):=by
     show _ = _
     rw [HS.out,← HM.out]
     omega
    clear HM HS
    go_wp2
    go_quiet ((go_at_call 146;exact Calls.quiet_of_same (HC _)))
    go_wp2
    go_roundw
    case rel => exact ⟨k + 1,m,by omega,by go_num,rfl,by omega,HM2,hRd.drewN nq,jTe HD.out nq⟩
    case measure => simp [intOf];omega
  ·obtain rfl : k = 4:=by omega
   go_wp2
   go_ret
   exact ⟨by rw [HM.out];rfl,HD.out⟩
end
section
open Go.RowKit
set_option maxRecDepth 100000
def jOi (c g : Nat) : Nat → Prop:=fun k => k = c ∨ k = g
theorem kDr (C : List Nat) (p y : Nat) : (jLb C).setIfInBounds p (.int .i64 (y : Int)) = jLb (C.set p y):=by
 unfold jLb
 rw [List.setIfInBounds_toArray,List.map_set]
theorem jJk (F : Nat → Prop) (w : World) (b o : Nat) (v : Value) (h : F b) : Gr F w (w.setCell ⟨b,o,none⟩ v) :=
 ⟨rfl,rfl,rfl,by simp [World.setCell],fun k _ hk => Below.heap_setCell _ _ _ k (fun e => hk (by rw [e];exact h))⟩
theorem kJc (F : Nat → Prop) (w : World) : Gr F w w.drew:=⟨rfl,rfl,rfl,Nat.le_refl _,fun _ _ _ => rfl⟩
theorem RSk.setRow {w : World} {c g sd : Nat} {st : St} (h : RSk w c g sd st) (p y : Nat) : RSk (w.setCell ⟨g,p,none⟩ (.int .i64 (y : Int))) c g sd (st.1.set p y,st.2) :=
 ⟨(heap_setCell_other _ _ _ _ h.ne).trans h.head,by rw [heap_setCell_same w g p _ _ _ h.row,kDr],by rw [List.length_set];exact h.len,h.ne⟩
theorem RSk.setAge {w : World} {c g sd : Nat} {st : St} (h : RSk w c g sd st) (a : Nat) : RSk (w.setCell ⟨c,2,none⟩ (.int .i64 (a : Int))) c g sd (st.1,a) :=
 ⟨heap_setCell_same w c 2 _ _ _ h.head,(heap_setCell_other _ _ _ _ (Ne.symm h.ne)).trans h.row,h.len,h.ne⟩
theorem RSk.drew {w : World} {c g sd : Nat} {st : St} (h : RSk w c g sd st) : RSk w.drew c g sd st:=⟨h.head,h.row,h.len,h.ne⟩
theorem kF4 (C : List Nat) (sd : Nat) (l : List UInt8) (k : Nat) (h : k < 4) : jGd C ((jDu sd l).take (k + 1)) = inc (jGd C ((jDu sd l).take k)) (plc sd l k):=by
 unfold jGd
 rw [jVe sd l k h,List.foldl_append]
 rfl
def jLe (C : List Nat) (k : Nat) : List Nat:=(C.take k).map (· / 2) ++ C.drop k
theorem kGa (C : List Nat) (k : Nat) (h : k < C.length) : (jLe C k).getD k 0 = C.getD k 0:=by
 unfold jLe
 have hl : ((C.take k).map (· / 2)).length = k:=by rw [List.length_map,List.length_take];omega
 simp only [List.getD]
 rw [List.getElem?_append_right (by omega),hl,Nat.sub_self,List.getElem?_drop,Nat.add_zero]
theorem kH5 (C : List Nat) (k : Nat) (h : k < C.length) : (jLe C k).set k (C.getD k 0 / 2) = jLe C (k + 1):=by
 have hl : ((C.take k).map (· / 2)).length = k:=by rw [List.length_map,List.length_take];omega
 unfold jLe
 rw [List.set_append_right _ _ (by omega),hl,Nat.sub_self,List.drop_eq_getElem_cons h,List.set_cons_zero,List.take_succ_eq_append_getElem h,List.map_append,List.append_assoc]
 simp [List.getD,List.getElem?_eq_getElem h]
theorem kI4 (C : List Nat) (k : Nat) (h : C.length ≤ k) : jLe C k = C.map (· / 2):=by
 unfold jLe
 rw [List.take_of_length_le h,List.drop_of_length_le h,List.append_nil]
theorem kNw (x : Nat) (h : x ≤ 15) : ((x : Int) / 2) = ((x / 2 : Nat) : Int) ∧ (x : Int).tdiv 2 = ((x / 2 : Nat) : Int) ∧ Value.int .i64 (IntKind.i64.wrap ((x / 2 : Nat) : Int)) = .int .i64 ((x / 2 : Nat) : Int):=by
 have h1 : ((x : Int) / 2) = ((x / 2 : Nat) : Int):=by omega
 have h2 : x / 2 < 9223372036854775808:=by omega
 have h3 : ∀ n : Nat,n < 9223372036854775808 → IntKind.i64.wrap (n : Int) = (n : Int):=fun n hn => by
  simp [IntKind.wrap,IntKind.bits,IntKind.signed]
  omega
 exact ⟨h1,by rw [Int.tdiv_eq_ediv_of_nonneg (by omega)];exact h1,by rw [h3 _ h2]⟩
set_option maxRecDepth 100000 in
theorem jUt {w : World} {c g sd : Nat} {st : St} (hR : RSk w c g sd st) (hG : jLl st) (s : ByteArray) (hs : s.size ≤ 140737488351232) :
  Calls Tryz.prog 106 #[.pointer (some ⟨c,0,none⟩),.string s] w fun e w' => e = .returned (.bool (jDh st)) ∧ RSk w' c g sd (addK sd st s.data.toList) ∧ Gr (jOi c g) w w':=by
 have hage:=hG.age
 go_enter Tryz.func106,Tryz.ntmps106
 go_wp2
 go_loopw [5] (fun i wr => ∃ (k : Nat) (C : List Nat),k ≤ 4 ∧ i = .int .i64 k ∧ Hid (C = jGd st.1 ((jDu sd s.data.toList).take k)) ∧ RSk wr c g sd (C,st.2) ∧ Gr (jOi c g) w wr) (fun i _ => 4 - (intOf i).toNat)
 case atStart => exact ⟨0,st.1,by omega,rfl,rfl,hR,Gr.refl _ _⟩
 case round =>
  clear hR
  obtain ⟨k,C,hk,rfl,HC,hR,hgr⟩:=hrel
  have hle : ∀ x ∈ C,x ≤ 15:=by rw [HC.out];exact jNc _ _ hG.le
  by_cases hlt : k < 4
  ·have hp:=kGv sd s.data.toList k hlt
   have hsl:=hR.slice
   have hat:=hR.at _ hp
   have HP:=jAa (jTb hR s hs k hlt)
   have HS : Hid (inc C (plc sd s.data.toList k) = jGd st.1 ((jDu sd s.data.toList).take (k + 1))):=by
    show _ = _
    rw [kF4 _ _ _ _ hlt,← HC.out]
   generalize plc sd s.data.toList k = p at *
   have hx15:=jK8 hle p
   have hfr:=hR.freeRow p
   have hpi : (p : Int) < 256:=by omega
   unfold inc at HS
   by_cases hx : C.getD p 0 < 15
   ·rw [if_pos hx] at HS
    have hR2:=hR.setRow p (C.getD p 0 + 1)
    have hg2:=hgr.trans (jJk (jOi c g) _ g p (.int .i64 ((C.getD p 0 + 1 : Nat) : Int)) (.inr rfl))
    have hsl2:=hR2.slice
    have hxi : ((C.getD p 0 : Nat) : Int) < 15:=by omega
    have ec : (((C.getD p 0 : Nat) + 1 : Nat) : Int) = ((C.getD p 0 : Nat) : Int) + 1:=by omega
    rw [ec] at hR2 hg2
    clear ec HC hle hp
    generalize C.getD p 0 = x at *
    go_wp2_with (go_at_call 146;refine HP.out.mono ?_;rintro e w1 ⟨rfl,rfl⟩)
    go_roundw
    case rel => exact ⟨k + 1,_,by omega,by go_num,HS,hR2,hg2⟩
    case measure => simp [intOf];omega
   ·rw [if_neg hx] at HS
    have hxi : (15 : Int) ≤ ((C.getD p 0 : Nat) : Int):=by omega
    clear HC hle hp
    generalize C.getD p 0 = x at *
    go_wp2_with (go_at_call 146;refine HP.out.mono ?_;rintro e w1 ⟨rfl,rfl⟩)
    go_roundw
    case rel => exact ⟨k + 1,_,by omega,by go_num,HS,hR,hgr⟩
    case measure => simp [intOf];omega
  ·obtain rfl : k = 4:=by omega
   have HC4 : Hid (C = jGd st.1 (jDu sd s.data.toList)):=HC.out
   have hca:=hR.age
   have hfa:=hR.free
   have hR2:=hR.setAge (st.2 + 1)
   have hg2:=hgr.trans (jJk (jOi c g) _ c 2 (.int .i64 ((st.2 + 1 : Nat) : Int)) (.inl rfl))
   have ec : ((st.2 + 1 : Nat) : Int) = (st.2 : Int) + 1:=by omega
   rw [ec] at hR2 hg2
   clear ec HC
   cases hh : jDh st with
   | false =>
    have ha : st.2 + 1 < 640:=by
     simp only [jDh,decide_eq_false_iff_not] at hh
     omega
    have hai : (st.2 : Int) + 1 < 640:=by omega
    have HA : Hid (addK sd st s.data.toList = (C,st.2 + 1)):=by
     show _ = _
     unfold addK
     rw [hh,HC4.out]
     rfl
    have HH:=jAa hh
    clear hh ha
    go_wp2
    go_ret
    exact ⟨by rw [HH.out];rfl,by rw [HA.out];exact hR2,hg2⟩
   | true =>
    have ha : 640 ≤ st.2 + 1:=by
     simp only [jDh,decide_eq_true_eq] at hh
     exact hh
    have hai : (640 : Int) ≤ (st.2 : Int) + 1:=by omega
    have HA : Hid (addK sd st s.data.toList = (C.map (· / 2),320)):=by
     show _ = _
     unfold addK
     rw [hh,HC4.out]
     rfl
    have hl256 : C.length = 256:=hR.len
    have HL:=jAa hl256
    have HH:=jAa hh
    have hle2:=jAa hle
    clear hh ha hl256 hle
    go_wp2
    rename_i z1 z2 z3 z4 z5 z6
    clear z4 hca hfa hR hgr hai
    go_loopw [7] (fun i wr => ∃ k : Nat,k ≤ 256 ∧ i = .int .i64 k ∧ RSk wr c g sd (jLe C k,st.2 + 1) ∧ Gr (jOi c g) w wr) (fun i _ => 256 - (intOf i).toNat)
    case atStart => exact ⟨0,by omega,rfl,hR2,hg2⟩
    case round =>
     clear hR2 hg2
     obtain ⟨k,hk,rfl,hR,hgr⟩:=hrel
     by_cases hlt : k < 256
     ·have hkl : k < C.length:=by rw [HL.out];exact hlt
      have hsl:=hR.slice
      have hat:=hR.at k hlt
      have hfr:=hR.freeRow k
      have hx15:=jK8 hle2.out k
      have hR2:=(hR.setRow k (C.getD k 0 / 2)).drew
      have hg2:=(hgr.trans (jJk (jOi c g) _ g k (.int .i64 ((C.getD k 0 / 2 : Nat) : Int)) (.inr rfl))).trans (kJc _ _)
      simp only at hat hR2
      rw [kGa C k hkl] at hat
      rw [kH5 C k hkl] at hR2
      obtain ⟨q1,q2,q3⟩:=kNw (C.getD k 0) hx15
      have hki : (k : Int) < 256:=by omega
      have hix:=jVo g k hki
      generalize C.getD k 0 / 2 = y at *
      generalize C.getD k 0 = x at *
      clear hkl hR hgr hx15 hle2
      go_wp2
      go_region
      go_wp2
      go_roundw
      case rel => exact ⟨k + 1,by omega,by go_num,hR2,hg2⟩
      case measure => simp [intOf];omega
     ·obtain rfl : k = 256:=by omega
      have hsl:=hR.slice
      have hca:=hR.age
      have hfa:=hR.free
      have hR2:=hR.setAge 320
      have hg2:=hgr.trans (jJk (jOi c g) _ c 2 (.int .i64 ((320 : Nat) : Int)) (.inl rfl))
      simp only at hR2
      rw [kI4 C 256 (by rw [HL.out];exact Nat.le_refl _)] at hR2
      clear hR hgr
      go_wp2
      go_ret
      exact ⟨by rw [HH.out];rfl,by rw [HA.out];exact hR2,hg2⟩
end
section
open Go.RowKit
set_option maxRecDepth 100000
theorem kHv {w w' : World} {n0 n : Nat} {e : TypeId} {v : Value} {xs : List Value} (h : w.ownsRow n0 e 1 v n xs) (hs : ∀ k,v.ownBlock = some k → w'.heap[k]? = w.heap[k]?) : w'.ownsRow n0 e 1 v n xs:=by
 refine ⟨h.1,?_⟩
 rcases h.2 with h1 | ⟨g,cap,cur,hv,h2,h3,h4⟩
 ·exact .inl h1
 ·exact .inr ⟨g,cap,cur,hv,h2,(hs g (by rw [hv];rfl)).trans h3,h4⟩
theorem jF7.same {n0 c sd : Nat} {w w' : World} {S : List Nat} {v : Value} (h : jF7 n0 w c sd S v) (hc : w'.heap[c]? = w.heap[c]?) (hs : ∀ k,v.ownBlock = some k → w'.heap[k]? = w.heap[k]?) : jF7 n0 w' c sd S v:=⟨hc.trans h.1,kHv h.2 hs⟩
theorem RSk.same {w w' : World} {c g sd : Nat} {st : St} (h : RSk w c g sd st) (hc : w'.heap[c]? = w.heap[c]?) (hg : w'.heap[g]? = w.heap[g]?) : RSk w' c g sd st:=⟨hc.trans h.head,hg.trans h.row,h.len,h.ne⟩
theorem RSk.lt {w : World} {c g sd : Nat} {st : St} (h : RSk w c g sd st) : c < w.heap.size ∧ g < w.heap.size:=⟨(Array.getElem?_eq_some_iff.1 h.head).1,(Array.getElem?_eq_some_iff.1 h.row).1⟩
def jMg (h c kc g : Nat) (v : Value) : Nat → Prop:=fun k => k = h ∨ k = c ∨ k = kc ∨ k = g ∨ v.ownBlock = some k
structure RJ (n0 : Nat) (w : World) (h c kc g sd : Nat) (j : Js) (v : Value) : Prop where
 head : w.heap[h]? = some (.cells #[.pointer (some ⟨c,0,none⟩),.pointer (some ⟨kc,0,none⟩)] 126 (0,0))
 fil : jF7 n0 w c sd j.1 v
 sk : RSk w kc g (sd1 sd) j.2
 vh : v.ownBlock ≠ some h
 vc : v.ownBlock ≠ some c
 vk : v.ownBlock ≠ some kc
 vg : v.ownBlock ≠ some g
 hc : h ≠ c
 hk : h ≠ kc
 hg : h ≠ g
 ck : c ≠ kc
 cg : c ≠ g
 from0 : ∀ k,jMg h c kc g v k → n0 ≤ k
theorem RJ.lt {n0 h c kc g sd : Nat} {w : World} {j : Js} {v : Value} (R : RJ n0 w h c kc g sd j v) : ∀ k,jMg h c kc g v k → k < w.heap.size:=by
 rintro k (rfl | rfl | rfl | rfl | hk)
 ·exact (Array.getElem?_eq_some_iff.1 R.head).1
 ·exact R.fil.lt
 ·exact R.sk.lt.1
 ·exact R.sk.lt.2
 ·exact (R.fil.2.lt k hk).2
theorem RJ.same {n0 h c kc g sd : Nat} {w w' : World} {j : Js} {v : Value} (R : RJ n0 w h c kc g sd j v) (hs : ∀ k,jMg h c kc g v k → w'.heap[k]? = w.heap[k]?) : RJ n0 w' h c kc g sd j v :=
 { R with
  head:=(hs h (.inl rfl)).trans R.head
  fil:=R.fil.same (hs c (.inr (.inl rfl))) fun k hk => hs k (.inr (.inr (.inr (.inr hk))))
  sk:=R.sk.same (hs kc (.inr (.inr (.inl rfl)))) (hs g (.inr (.inr (.inr (.inl rfl))))) }
theorem RJ.drewN {n0 h c kc g sd : Nat} {w : World} {j : Js} {v : Value} (R : RJ n0 w h c kc g sd j v) (d : Nat) : RJ n0 (w.drewN d) h c kc g sd j v:=R.same fun _ _ => rfl
theorem jQp {n0 h c kc g sd : Nat} {w : World} {j : Js} {v : Value} (R : RJ n0 w h c kc g sd j v) (hG : jMw j) (s : ByteArray) (hs : s.size ≤ 140737488351232) :
  Calls Tryz.prog 175 #[.pointer (some ⟨h,0,none⟩),.string s] w fun e w' => e = .returned (.int .i64 (jCt sd j s.data.toList)) ∧ ∃ d,w' = w.drewN d:=by
 have c0 : w.cell? ⟨h,0,none⟩ = some (.pointer (some ⟨c,0,none⟩)):=by rw [cell_of_row w h 0 _ _ _ R.head];rfl
 have c1 : w.cell? ⟨h,1,none⟩ = some (.pointer (some ⟨kc,0,none⟩)):=by rw [cell_of_row w h 1 _ _ _ R.head];rfl
 have HC:=jAa (kB7 R.sk s hs)
 have hle:=kIq j.2.1 (jDu (sd1 sd) s.data.toList)
 have HW : Hid (jCt sd j s.data.toList = cnt j.2.1 (jDu (sd1 sd) s.data.toList) + (if jDz j.1 (pls sd s.data.toList) then 1 else 0)):=rfl
 have HH:=jAa (fun d => jUw (R.drewN d).fil (Nat.le_trans (jZf hG.set) (by decide)) s hs)
 generalize cnt j.2.1 (jDu (sd1 sd) s.data.toList) = n at *
 generalize jDz j.1 (pls sd s.data.toList) = q at *
 cases q with
 | true =>
  go_enter Tryz.func175,Tryz.ntmps175
  go_wp2_with (first
   | (go_at_call 205;refine HC.out.mono ?_;rintro e w1 ⟨rfl,d,rfl⟩)
   | (go_at_call 143;refine (HH.out _).mono ?_;rintro e w2 ⟨rfl,rfl⟩))
  go_ret
  exact ⟨by rw [HW.out];rfl,d,rfl⟩
 | false =>
  go_enter Tryz.func175,Tryz.ntmps175
  go_wp2_with (first
   | (go_at_call 205;refine HC.out.mono ?_;rintro e w1 ⟨rfl,d,rfl⟩)
   | (go_at_call 143;refine (HH.out _).mono ?_;rintro e w2 ⟨rfl,rfl⟩))
  go_ret
  exact ⟨by rw [HW.out];rfl,d,rfl⟩
theorem RJ.add {n0 h c kc g sd : Nat} {w w1 : World} {j : Js} {v v1 : Value} {S1 : List Nat} (R : RJ n0 w h c kc g sd j v) (hn : n0 ≤ w.heap.size) (R1 : jF7 n0 w1 c sd S1 v1) (hc1 : v1.ownBlock ≠ some c) (hG : Gr (fun k => k = c ∨ v.ownBlock = some k) w w1)
  (hf : ∀ k,v1.ownBlock = some k → v.ownBlock = some k ∨ w.heap.size ≤ k) : RJ n0 w1 h c kc g sd (S1,j.2) v1:=by
 have lh:=R.lt h (.inl rfl)
 have lk:=R.lt kc (.inr (.inr (.inl rfl)))
 have lg:=R.lt g (.inr (.inr (.inr (.inl rfl))))
 have far : ∀ k,k < w.heap.size → v.ownBlock ≠ some k → v1.ownBlock ≠ some k:=fun k hk hv e => (hf k e).elim hv (fun hw => Nat.not_lt_of_le hw hk)
 exact {
  head:=(hG.block h lh (fun e => e.elim R.hc R.vh)).trans R.head
  fil:=R1
  sk:=R.sk.same (hG.block kc lk (fun e => e.elim (fun x => R.ck x.symm) R.vk)) (hG.block g lg (fun e => e.elim (fun x => R.cg x.symm) R.vg))
  vh:=far h lh R.vh
  vc:=hc1
  vk:=far kc lk R.vk
  vg:=far g lg R.vg
  hc:=R.hc,hk:=R.hk,hg:=R.hg,ck:=R.ck,cg:=R.cg
  from0:=by
   rintro k (rfl | rfl | rfl | rfl | hk)
   ·exact R.from0 _ (.inl rfl)
   ·exact R.from0 _ (.inr (.inl rfl))
   ·exact R.from0 _ (.inr (.inr (.inl rfl)))
   ·exact R.from0 _ (.inr (.inr (.inr (.inl rfl))))
   ·exact (hf k hk).elim (fun e => R.from0 k (.inr (.inr (.inr (.inr e))))) (fun e => Nat.le_trans hn e) }
theorem RJ.addK {n0 h c kc g sd : Nat} {w w1 : World} {j : Js} {v : Value} {st : St} (R : RJ n0 w h c kc g sd j v) (R1 : RSk w1 kc g (sd1 sd) st) (hG : Gr (jOi kc g) w w1) : RJ n0 w1 h c kc g sd (j.1,st) v :=
 { R with
  head:=(hG.block h (R.lt h (.inl rfl)) (fun e => e.elim R.hk R.hg)).trans R.head
  fil:=R.fil.same (hG.block c (R.lt c (.inr (.inl rfl))) (fun e => e.elim R.ck R.cg)) fun k hk => hG.block k (R.lt k (.inr (.inr (.inr (.inr hk))))) (fun e => e.elim (fun x => R.vk (by rw [hk,x])) (fun x => R.vg (by rw [hk,x])))
  sk:=R1 }
theorem RJ.wipe {n0 h c kc g sd : Nat} {w : World} {j : Js} {v : Value} (R : RJ n0 w h c kc g sd j v) : RJ n0 (w.setCell ⟨c,1,none⟩ (.slice none 0 0)) h c kc g sd ([],j.2) (.slice none 0 0) :=
 { R with
  head:=(heap_setCell_other _ _ _ _ R.hc).trans R.head
  fil:=⟨jYu R.fil.1 _,World.ownsRow_nil _ _ _ _⟩
  sk:=R.sk.same (heap_setCell_other _ _ _ _ (fun e => R.ck e.symm)) (heap_setCell_other _ _ _ _ (fun e => R.cg e.symm))
  vh:=by simp [Value.ownBlock]
  vc:=by simp [Value.ownBlock]
  vk:=by simp [Value.ownBlock]
  vg:=by simp [Value.ownBlock]
  from0:=by
   rintro k (rfl | rfl | rfl | rfl | hk)
   ·exact R.from0 _ (.inl rfl)
   ·exact R.from0 _ (.inr (.inl rfl))
   ·exact R.from0 _ (.inr (.inr (.inl rfl)))
   ·exact R.from0 _ (.inr (.inr (.inr (.inl rfl))))
   ·simp [Value.ownBlock] at hk }
theorem kA7 {F G : Nat → Prop} {a b : World} (h : Gr F a b) (hF : ∀ k,F k → G k) : Gr G a b:=⟨h.os,h.tape,h.output,h.size,fun k hk hr => h.block k hk (fun hf => hr (hF k hf))⟩
theorem jRw {w w' : World} {h c kc g : Nat} {v : Value} (hG : Gr (fun k => k = c ∨ v.ownBlock = some k) w w') : Gr (jMg h c kc g v) w w':=kA7 hG fun _ e => e.elim (fun x => .inr (.inl x)) (fun x => .inr (.inr (.inr (.inr x))))
theorem kAx {w w' : World} {h c kc g : Nat} {v : Value} (hG : Gr (jOi kc g) w w') : Gr (jMg h c kc g v) w w':=kA7 hG fun _ e => e.elim (fun x => .inr (.inr (.inl x))) (fun x => .inr (.inr (.inr (.inl x))))
theorem RJ.cell0 {n0 h c kc g sd : Nat} {w : World} {j : Js} {v : Value} (R : RJ n0 w h c kc g sd j v) : w.cell? ⟨h,0,none⟩ = some (.pointer (some ⟨c,0,none⟩)):=by rw [cell_of_row w h 0 _ _ _ R.head];rfl
theorem RJ.cell1 {n0 h c kc g sd : Nat} {w : World} {j : Js} {v : Value} (R : RJ n0 w h c kc g sd j v) : w.cell? ⟨h,1,none⟩ = some (.pointer (some ⟨kc,0,none⟩)):=by rw [cell_of_row w h 1 _ _ _ R.head];rfl
theorem kAi {n0 h c kc g sd : Nat} {w : World} {j : Js} {v : Value} (R : RJ n0 w h c kc g sd j v) (hn : n0 ≤ w.heap.size) (hG : jMw j) (s : ByteArray) (hs : s.size ≤ 140737488351232) :
  Calls Tryz.prog 70 #[.pointer (some ⟨h,0,none⟩),.string s] w fun e w' => (∃ v0,e = .returned v0) ∧ ∃ v',RJ n0 w' h c kc g sd (jKt sd j s.data.toList) v' ∧ Gr (jMg h c kc g v) w w' ∧ (∀ k,v'.ownBlock = some k → v.ownBlock = some k ∨ w.heap.size ≤ k):=by
 have c0 : w.cell? ⟨h,0,none⟩ = some (.pointer (some ⟨c,0,none⟩)):=by rw [cell_of_row w h 0 _ _ _ R.head];rfl
 have HA:=jAa (kLw R.fil R.vc hn (Nat.le_trans (jZf hG.set) (by decide)) s hs)
 have HT : Hid (jKt sd j s.data.toList = if jDz j.1 (pls sd s.data.toList) then (if jDh j.2 then ([],addK (sd1 sd) j.2 s.data.toList) else (jDs j.1 (pls sd s.data.toList),addK (sd1 sd) j.2 s.data.toList)) else (jDs j.1 (pls sd s.data.toList),j.2)):=rfl
 generalize jDz j.1 (pls sd s.data.toList) = q at *
 cases q with
 | false =>
  go_enter Tryz.func70,Tryz.ntmps70
  go_wp2_with (go_at_call 105;refine HA.out.mono ?_;rintro e w1 ⟨rfl,v1,hR1,hc1,hg1,hf1⟩)
  refine bodyPost_ret (results_none rfl _ _ _) rfl ?_
  refine ⟨⟨_,rfl⟩,v1,?_,jRw hg1,hf1⟩
  rw [HT.out]
  exact R.add hn hR1 hc1 hg1 hf1
 | true =>
  obtain ⟨r,hr⟩ : ∃ r,jDh j.2 = r:=⟨_,rfl⟩
  have HR:=jAa hr
  rw [hr] at HT
  clear hr
  cases r with
  | false =>
   go_enter Tryz.func70,Tryz.ntmps70
   go_wp2_with (first
    | (go_at_call 105;refine HA.out.mono ?_;clear HA;rintro e w1 ⟨rfl,v1,hR1,hc1,hg1,hf1⟩;have R1:=R.add hn hR1 hc1 hg1 hf1;have c1:=R1.cell1)
    | (go_at_call 106;refine (jUt R1.sk hG.st s hs).mono ?_;rintro e w2 ⟨he,hR2,hg2⟩;rw [HR.out] at he;subst he;have R2:=R1.addK hR2 hg2))
   go_end0
   refine ⟨⟨_,rfl⟩,v1,?_,(jRw hg1).then (kAx (h:=h) (c:=c) (v:=v) hg2) (fun _ _ e => e),hf1⟩
   rw [HT.out]
   exact R2
  | true =>
   go_enter Tryz.func70,Tryz.ntmps70
   go_wp2_with (first
    | (go_at_call 105;refine HA.out.mono ?_;clear HA;rintro e w1 ⟨rfl,v1,hR1,hc1,hg1,hf1⟩;have R1:=R.add hn hR1 hc1 hg1 hf1;have c1:=R1.cell1)
    | (go_at_call 106;refine (jUt R1.sk hG.st s hs).mono ?_;rintro e w2 ⟨he,hR2,hg2⟩;rw [HR.out] at he;subst he;have R2:=R1.addK hR2 hg2;have c2:=R2.cell0;have c3:=R2.fil.set;have c4:=R2.fil.free))
   go_end0
   refine ⟨⟨_,rfl⟩,.slice none 0 0,?_,((jRw hg1).then (kAx (h:=h) (c:=c) (v:=v) hg2) (fun _ _ e => e)).trans (jJk _ _ _ _ _ (.inr (.inl rfl))),fun k e => by simp [Value.ownBlock] at e⟩
   rw [HT.out]
   exact R2.wipe
theorem jIi {n0 h c kc g sd : Nat} {w : World} {j : Js} {v : Value} (R : RJ n0 w h c kc g sd j v) (hG : jMw j) (s t : ByteArray) (hs : s.size ≤ 140737488351232) (ht : t.size ≤ 140737488351232) :
  Calls Tryz.prog 149 #[.pointer (some ⟨h,0,none⟩),.string s,.string t] w fun e w' => e = .returned (.bool (decide (jCt sd j t.data.toList < jCt sd j s.data.toList))) ∧ ∃ d,w' = w.drewN d:=by
 have H1:=jAa (jQp R hG s hs)
 have H2:=jAa (fun d => jQp (R.drewN d) hG t ht)
 generalize jCt sd j s.data.toList = x at *
 generalize jCt sd j t.data.toList = y at *
 go_enter Tryz.func149,Tryz.ntmps149
 go_wp2_with (first
  | (go_at_call 175;refine H1.out.mono ?_;clear H1;rintro e w1 ⟨rfl,d,rfl⟩)
  | (go_at_call 175;refine (H2.out _).mono ?_;clear H2;rintro e w1 ⟨rfl,d2,rfl⟩))
 go_ret
 exact ⟨rfl,d + d2,rfl⟩
theorem kM3 {n0 sd : Nat} {w w1 : World} (hn : n0 ≤ w.heap.size) (hR : RSk w1 (w.heap.size + 1 + 1) (w.heap.size + 1) (sd1 sd) jOf) (hg : (w.alloc (.cells #[.int .u64 sd,.slice none 0 0] 122)).grownBy w1 none) :
  RJ n0 (w1.alloc (.cells #[.pointer (some ⟨w.heap.size,0,none⟩),.pointer (some ⟨w.heap.size + 1 + 1,0,none⟩)] 126)) w1.heap.size w.heap.size (w.heap.size + 1 + 1) (w.heap.size + 1) sd jIn (.slice none 0 0) ∧
  (∀ k,jMg w1.heap.size w.heap.size (w.heap.size + 1 + 1) (w.heap.size + 1) (.slice none 0 0) k → w.heap.size ≤ k) ∧ w.grownBy (w1.alloc (.cells #[.pointer (some ⟨w.heap.size,0,none⟩),.pointer (some ⟨w.heap.size + 1 + 1,0,none⟩)] 126)) none:=by
 have hsz:=hg.size
 rw [World.size_alloc] at hsz
 have hlt:=hR.lt
 have far : ∀ k,jMg w1.heap.size w.heap.size (w.heap.size + 1 + 1) (w.heap.size + 1) (.slice none 0 0) k → w.heap.size ≤ k:=by
  rintro k (rfl | rfl | rfl | rfl | hk)
  ·omega
  ·omega
  ·omega
  ·omega
  ·simp [Value.ownBlock] at hk
 have hc : w1.heap[w.heap.size]? = some (.cells #[.int .u64 sd,.slice none 0 0] 122 (0,0)):=(hg.block w.heap.size (by rw [World.size_alloc];omega) (by simp)).trans (heap_alloc_new w _)
 refine ⟨?_,far,jAt (jAt (World.grownBy_alloc _ _ _) hg) (World.grownBy_alloc _ _ _)⟩
 exact {
  head:=heap_alloc_new w1 _
  fil:=⟨(heap_alloc_old w1 _ (by omega)).trans hc,World.ownsRow_nil _ _ _ _⟩
  sk:=hR.same (heap_alloc_old w1 _ hlt.1) (heap_alloc_old w1 _ hlt.2)
  vh:=by simp [Value.ownBlock]
  vc:=by simp [Value.ownBlock]
  vk:=by simp [Value.ownBlock]
  vg:=by simp [Value.ownBlock]
  hc:=by omega
  hk:=by omega
  hg:=by omega
  ck:=by omega
  cg:=by omega
  from0:=fun k hk => Nat.le_trans hn (far k hk) }
theorem kH7 (sd : Nat) (n0 : Nat) (w : World) (hn : n0 ≤ w.heap.size) : Calls Tryz.prog 27 #[.int .u64 sd] w fun e w' => ∃ h c kc g,e = .returned (.pointer (some ⟨h,0,none⟩)) ∧ RJ n0 w' h c kc g sd jIn (.slice none 0 0) ∧ (∀ k,jMg h c kc g (.slice none 0 0) k → w.heap.size ≤ k) ∧ w.grownBy w' none:=by
 have E : IntKind.u64.wrap ((sd : Int) + 1) = ((sd1 sd : Nat) : Int):=by
  unfold sd1
  rw [IntKind.wrap_u64]
  omega
 have HN:=jAa (fun W => kJ0 (sd1 sd) W)
 generalize hs1 : sd1 sd = s1 at *
 go_enter Tryz.func27,Tryz.ntmps27
 go_wp2_with (go_at_call 51;refine (HN.out _).mono ?_;rintro e w1 ⟨rfl,hR,hg⟩)
 go_ret
 rw [← hs1,World.size_alloc] at hR
 exact ⟨_,_,_,_,rfl,kM3 hn hR hg⟩
end
end Go.Proofs.YtkfeafmpaodagaaGreatDoor
