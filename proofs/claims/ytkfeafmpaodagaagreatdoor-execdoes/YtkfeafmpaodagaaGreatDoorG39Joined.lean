/- Slices of calls of layer 12 (a command, an env) that came in, opened: with what their bytes weigh. Conditions: each text and each slice that came in weighs at most what a machine reaches. What the statements of layer 12 share: Fine, Few, done, awake. Conditions: the contracts of package shard; the variables of package num. -/
import Derived.Test.YtkfeafmpaodagaaGreatDoorG27Joined
import Derived.Test.YtkfeafmpaodagaaGreatDoorG35Joined
import Derived.SizedLaws
import Derived.Test.YtkfeafmpaodagaaGreatDoorG38Joined
import Derived.Test.YtkfeafmpaodagaaGreatDoorG36Joined
import Derived.Lib.SlBytesConst
namespace Go.Proofs.YtkfeafmpaodagaaGreatDoor
set_option maxHeartbeats 16000000
set_option maxRecDepth 100000
section
set_option linter.unusedVariables false
open Go.RowKit Go.ChangeShapes Go.WideShapes Go.Deep
theorem kCf {H : Type} {enc : TypeId × Value → H} {w : World} {base : Nat} {spare : Nat → Bool} {held : Bool} {n : Nat} {v : Value} {z : DataW H × List MemPlace}
  (h : DataW.trod enc Tryz.prog w base spare held n 30 [v] = some z) (hw : ∀ m ∈ z.1.weights Tryz.prog 30,m ≤ reachBytes) : ∃ (a : Option Addr) (c : Nat) (u : List UInt8),v = .slice a u.length c ∧ u.length ≤ 140737488351232 ∧ Bs w a u.length c (jA6 u):=by
 obtain ⟨a,c,u,h1,h2,h3⟩:=kEx h
 refine ⟨a,c,u,h1,?_,h3⟩
 have hb : Tryz.prog.bytesOf 5 = 1:=by kernel_rfl
 rcases open_ints Tryz.underlying30 Tryz.underlying5 (by kernel_rfl) h with ⟨hc,_⟩ | ⟨ad,l,c',zs,hc,_,hl,hm,hz,hx,_⟩
 ·simp at hc
  rw [hc] at h1
  have:=(Value.slice.inj h1).2.1
  omega
 ·simp at hc
  rw [hc] at h1
  have hul : l = u.length:=(Value.slice.inj h1).2.1
  have hzl : l ≤ zs.length:=by rw [hz];split <;> omega
  have h5:=hw ((lits .u8 (zs.take l)).length * 1 + (lits .u8 (zs.drop l)).length * 1) (by
   rw [hx]
   simp only [DataW.weights,Tryz.underlying30,hb]
   rw [← Nat.add_mul]
   exact List.mem_cons_self ..)
  have h6 : (lits (H:=H) .u8 (zs.take l)).length = min l zs.length:=by simp [lits]
  have h7 : reachBytes = 140737488351232:=rfl
  omega
theorem kCl {H : Type} {enc : TypeId × Value → H} {w : World} {base : Nat} {spare : Nat → Bool} {held : Bool} {n : Nat} {y : List Value} {z : DataW H × List MemPlace} (hl : y.length = 10)
  (h : DataW.trod enc Tryz.prog w base spare held n 33 y = some z) (hw : ∀ m ∈ z.1.weights Tryz.prog 33,m ≤ reachBytes) : ∃ (c : Cv) (a : Option Addr) (k : Nat),y = (cmC c a k).toList ∧ c.ok ∧ Bs w a c.val.length k (jA6 c.val):=by
 have ci : Tryz.prog.cellsOf 3 = 1:=by kernel_rfl
 have cu : Tryz.prog.cellsOf 22 = 1:=by kernel_rfl
 have c3 : Tryz.prog.cellsOf 31 = 1:=by kernel_rfl
 have cb : Tryz.prog.cellsOf 4 = 1:=by kernel_rfl
 have ct : Tryz.prog.cellsOf 9 = 1:=by kernel_rfl
 have cl : Tryz.prog.cellsOf 30 = 1:=by kernel_rfl
 obtain ⟨xs,m,_,hz,_,hlen,hf⟩:=DataW.trod_struct Tryz.underlying33 h
 have hW : ∀ (j : Nat) (t : TypeId) (d : DataW H),[3,9,30,31,3,22,22,22,4,4][j]? = some t → (xs.map (·.1))[j]? = some d → ∀ q ∈ d.weights Tryz.prog t,q ≤ reachBytes:=fun j t d ht hd q hq => by
  refine hw q ?_
  rw [hz]
  simp only [DataW.weights,Tryz.underlying33]
  exact DataW.weights_mem_each (j:=j) ht hd q hq
 match y,hl with
 | [v0,v1,v2,v3,v4,v5,v6,v7,v8,v9],_ =>
  match xs,hlen,hf,hW with
  | [y0,y1,y2,y3,y4,y5,y6,y7,y8,y9],_,hf,hW =>
   have g0:=hf 0 _ rfl
   have g1:=hf 1 _ rfl
   have g2:=hf 2 _ rfl
   have g3:=hf 3 _ rfl
   have g4:=hf 4 _ rfl
   have g5:=hf 5 _ rfl
   have g6:=hf 6 _ rfl
   have g7:=hf 7 _ rfl
   have g8:=hf 8 _ rfl
   have g9:=hf 9 _ rfl
   simp [ci,cu,c3,cb,ct,cl] at g0 g1 g2 g3 g4 g5 g6 g7 g8 g9
   obtain ⟨k0,e0,_,w0⟩:=DataW.trod_int Tryz.underlying3 g0
   obtain ⟨k1,e1,x1,w1⟩:=DataW.trod_string Tryz.underlying9 g1
   obtain ⟨a2,c2,u2,e2,w2,b2⟩:=kCf g2 (hW 2 _ _ rfl rfl)
   obtain ⟨k3,e3,_,w3⟩:=DataW.trod_int Tryz.underlying31 g3
   obtain ⟨k4,e4,_,w4⟩:=DataW.trod_int Tryz.underlying3 g4
   obtain ⟨k5,e5,_,w5⟩:=DataW.trod_int Tryz.underlying22 g5
   obtain ⟨k6,e6,_,w6⟩:=DataW.trod_int Tryz.underlying22 g6
   obtain ⟨k7,e7,_,w7⟩:=DataW.trod_int Tryz.underlying22 g7
   obtain ⟨k8,e8,_⟩:=DataW.trod_bool Tryz.underlying4 g8
   obtain ⟨k9,e9,_⟩:=DataW.trod_bool Tryz.underlying4 g9
   have hk : k1.size ≤ 140737488351232:=by
    have h5:=hW 1 _ _ rfl rfl k1.data.toList.length (by show _ ∈ y1.1.weights _ _;rw [x1];exact List.mem_singleton.2 rfl)
    have h6 : k1.data.toList.length = k1.size:=by rw [Array.length_toList];rfl
    have h7 : reachBytes = 140737488351232:=rfl
    omega
   simp at e0 e1 e3 e4 e5 e6 e7 e8 e9
   subst e0 e1 e2 e3 e4 e5 e6 e7 e8 e9
   exact ⟨⟨k0,k1,u2,k3,k4,k5,k6,k7,k8,k9⟩,a2,c2,rfl,⟨jKu w0,hk,w2,jKu w4,jNf w5,jNf w6,jNf w7⟩,b2⟩
structure jD4 where
 cv : Cv
 a : Option Addr
 k : Nat
 en : En
def jD4.cells (o : jD4) : List Value:=(cmC o.cv o.a o.k).toList ++ (enC o.en).toList
structure jD4.ok (w : World) (o : jD4) : Prop where
 cv : o.cv.ok
 en : o.en.ok
 bs : Bs w o.a o.cv.val.length o.k (jA6 o.cv.val)
def jHy (w : World) (a : Option Addr) (len cap : Nat) (os : List jD4) : Prop:=(jK2 w a len cap 14 (os.map jD4.cells) ∧ ∀ o ∈ os,o.ok w) ∧ len ≤ 2199023255552
theorem jD4.ok.on {w w' : World} {o : jD4} (h : o.ok w) (hb : Below w.heap.size w w') : o.ok w':=⟨h.cv,h.en,h.bs.on hb⟩
theorem jHy.on {w w' : World} {a : Option Addr} {len cap : Nat} {os : List jD4} (h : jHy w a len cap os) (hb : Below w.heap.size w w') : jHy w' a len cap os:=⟨⟨h.1.1.on hb,fun o ho => (h.1.2 o ho).on hb⟩,h.2⟩
theorem jHy.len_ {w : World} {a : Option Addr} {len cap : Nat} {os : List jD4} (h : jHy w a len cap os) : os.length = len:=by
 have:=h.1.1.len_
 rwa [List.length_map] at this
structure jKw (w : World) (c off k : Nat) (o : jD4) : Prop where
 old : c < w.heap.size
 all : ∀ (j : Nat) (v : Value),o.cells[j]? = some v → w.cell? ⟨c,off + k * 14 + j,none⟩ = some v
theorem jKw.on {w w' : World} {c off k n : Nat} {o : jD4} (h : jKw w c off k o) (hn : w.heap.size ≤ n) (hb : Below n w w') : jKw w' c off k o :=
 ⟨Nat.lt_of_lt_of_le h.old hb.size,fun j v hv => (hb.cell (p:=⟨c,off + k * 14 + j,none⟩) (Nat.lt_of_lt_of_le h.old hn)).trans (h.all j v hv)⟩
theorem jKw.cm {w : World} {c off k : Nat} {o : jD4} (h : jKw w c off k o) : w.rangeAt c (off + k * 14) (cmC o.cv o.a o.k).toList:=fun j v hv => by
 have hj : j < 10:=(List.getElem?_eq_some_iff.1 hv).1
 refine h.all j v ?_
 unfold jD4.cells
 rw [List.getElem?_append_left hj]
 exact hv
theorem jKw.en {w : World} {c off k : Nat} {o : jD4} (h : jKw w c off k o) : w.rangeAt c (off + k * 14 + 10) (enC o.en).toList:=fun j v hv => by
 have h1:=h.all (j + 10) v (by
  unfold jD4.cells
  rw [List.getElem?_append_right (by show 10 ≤ _;omega)]
  exact hv)
 have e : off + k * 14 + (j + 10) = off + k * 14 + 10 + j:=by omega
 rw [e] at h1
 exact h1
theorem jHy.at {w : World} {a : Option Addr} {len cap : Nat} {os : List jD4} (h : jHy w a len cap os) (i : Nat) (hi : i < os.length) : ∃ b off,a = some ⟨b,off,none⟩ ∧ jKw w b off i os[i] ∧ os[i].ok w:=by
 obtain ⟨b,off,h1,h2,_,h4⟩:=h.1.1.at i os[i].cells (by rw [List.getElem?_map,List.getElem?_eq_getElem hi];rfl)
 exact ⟨b,off,h1,⟨h2,h4⟩,h.1.2 _ (List.getElem_mem hi)⟩
theorem kEk {H : Type} {enc : TypeId × Value → H} {w : World} {base : Nat} {spare : Nat → Bool} {held : Bool} {n : Nat} {y : List Value} {z : DataW H × List MemPlace} (hl : y.length = 14)
  (h : DataW.trod enc Tryz.prog w base spare held n 37 y = some z) (hw : ∀ m ∈ z.1.weights Tryz.prog 37,m ≤ reachBytes) : ∃ o : jD4,y = o.cells ∧ o.ok w:=by
 have cI : Tryz.prog.cellsOf 33 = 10:=by kernel_rfl
 have cE : Tryz.prog.cellsOf 35 = 4:=by kernel_rfl
 obtain ⟨xs,m,_,hz,_,hlen,hf⟩:=DataW.trod_struct Tryz.underlying37 h
 have hW : ∀ (j : Nat) (t : TypeId) (d : DataW H),[33,35][j]? = some t → (xs.map (·.1))[j]? = some d → ∀ q ∈ d.weights Tryz.prog t,q ≤ reachBytes:=fun j t d ht hd q hq => by
  refine hw q ?_
  rw [hz]
  simp only [DataW.weights,Tryz.underlying37]
  exact DataW.weights_mem_each (j:=j) ht hd q hq
 match y,hl with
 | [v0,v1,v2,v3,v4,v5,v6,v7,v8,v9,v10,v11,v12,v13],_ =>
  match xs,hlen,hf,hW with
  | [y0,y1],_,hf,hW =>
   have g0:=hf 0 _ rfl
   have g1:=hf 1 _ rfl
   simp [cI,cE] at g0 g1
   obtain ⟨c,a,k,e0,w0,b0⟩:=kCl rfl g0 (hW 0 _ _ rfl rfl)
   obtain ⟨en,e1,w1⟩:=kIp rfl g1
   refine ⟨⟨c,a,k,en⟩,?_,⟨w0,w1,b0⟩⟩
   show _ = (cmC c a k).toList ++ (enC en).toList
   rw [← e0,← e1]
   rfl
theorem jQx {H : Type} {P : Program} {e : TypeId} : ∀ {l : List (DataW H)} {d : DataW H},d ∈ l → ∀ m ∈ d.weights P e,m ∈ DataW.weightsAll P e l
 | x :: l,d,hd,m,hm => by
  simp only [DataW.weightsAll,List.mem_append]
  rcases List.mem_cons.1 hd with rfl | hd
  ·exact .inl hm
  ·exact .inr (jQx hd m hm)
theorem jXg {w : World} : ∀ (xs : List (List Value)),(∀ y ∈ xs,∃ o : jD4,y = o.cells ∧ o.ok w) → ∃ os : List jD4,xs = os.map jD4.cells ∧ ∀ o ∈ os,o.ok w
 | [],_ => ⟨[],rfl,fun o ho => by cases ho⟩
 | x :: xs,h => by
  obtain ⟨o,ho,hk⟩:=h x List.mem_cons_self
  obtain ⟨os,hs,hks⟩:=jXg xs fun y hy => h y (List.mem_cons_of_mem _ hy)
  refine ⟨o :: os,by rw [ho,hs];rfl,fun p hp => ?_⟩
  rcases List.mem_cons.1 hp with rfl | hp
  ·exact hk
  ·exact hks p hp
theorem kJj {H : Type} {enc : TypeId × Value → H} {w : World} {base : Nat} {spare : Nat → Bool} {held : Bool} {fuel : Nat} {a : Option Addr} {len cap : Nat} {x : DataW H × List MemPlace}
  (h : DataW.trod enc Tryz.prog w base spare held fuel 23 [.slice a len cap] = some x) (hw : ∀ m ∈ x.1.weights Tryz.prog 23,m ≤ reachBytes) : ∃ os,jHy w a len cap os:=by
 have ce : Tryz.prog.cellsOf 37 = 14:=by kernel_rfl
 have cb : 64 ≤ Tryz.prog.bytesOf 37:=of_decide_eq_true (by kernel_rfl)
 rcases open_slice Tryz.underlying23 h with ⟨hcs,_⟩ | ⟨ad,l,c,m,n,D,Pl,hcs,_,hl,hm,hmm,hx,hel⟩
 ·cases hcs
  exact ⟨[],⟨.inl ⟨rfl,rfl⟩,fun o ho => by cases ho⟩,Nat.zero_le _⟩
 ·cases hcs
  have hlen : len ≤ 2199023255552:=by
   have h5:=hw (((List.range len).map D).length * Tryz.prog.bytesOf 37 + ((List.range (m - len)).map fun j => D (len + j)).length * Tryz.prog.bytesOf 37) (by
    rw [hx]
    simp only [DataW.weights,Tryz.underlying23]
    rw [← Nat.add_mul]
    exact List.mem_cons_self ..)
   have h6 : ((List.range len).map D).length = len:=by simp
   rw [h6] at h5
   have h7 : reachBytes = 140737488351232:=rfl
   have h8 : len * 64 ≤ len * Tryz.prog.bytesOf 37:=Nat.mul_le_mul_left _ cb
   omega
  by_cases h0 : len = 0
  ·exact ⟨[],⟨.inl ⟨h0,rfl⟩,fun o ho => by cases ho⟩,hlen⟩
  ·have hlm : len ≤ m:=by rw [hmm];split <;> omega
   have each : ∀ i,i < len → ∃ q : List Value,(q.length = 14 ∧ (∀ j,j < 14 → w.cell? (ad.add (i * 14 + j)) = q[j]?)) ∧ ∃ o : jD4,q = o.cells ∧ o.ok w:=by
    intro i hi
    obtain ⟨cs',h1,h2⟩:=hel i (by omega)
    rw [ce] at h1
    obtain ⟨_,hlen',hcell⟩:=World.cells?_some h1
    refine ⟨cs',⟨hlen',fun j hj => by rw [← add_add];exact hcell j hj⟩,kEk hlen' h2 fun q hq => hw q ?_⟩
    rw [hx]
    simp only [DataW.weights,Tryz.underlying23,List.mem_cons,List.mem_append]
    exact .inr (.inl (jQx (List.mem_map.2 ⟨i,List.mem_range.2 hi,rfl⟩) q hq))
   obtain ⟨q,hq⟩:=choose_lt each
   obtain ⟨b,off,spot⟩:=ad
   have q0:=hq 0 (by omega)
   have hc : w.cell? ((⟨b,off,spot⟩ : Addr).add (0 * 14 + 0)) = some ((q 0)[0]'(by rw [q0.1.1];decide)):=by
    rw [q0.1.2 0 (by decide)]
    exact List.getElem?_eq_getElem (by rw [q0.1.1];decide)
   have hspot : spot = none:=by simpa [Addr.add] using World.cell?_spot hc
   subst hspot
   have hadd : ∀ i,(⟨b,off,none⟩ : Addr).add i = ⟨b,off + i,none⟩:=fun i => by unfold Addr.add;split <;> simp_all
   obtain ⟨os,hos,hok⟩:=jXg ((List.range len).map q) fun y hy => by
    obtain ⟨i,hi,rfl⟩:=List.mem_map.1 hy
    exact (hq i (List.mem_range.1 hi)).2
   refine ⟨os,⟨?_,hok⟩,hlen⟩
   rw [← hos]
   refine .inr ⟨b,off,rfl,hl,by simp,by rw [hadd] at hc;exact block_lt_of_cell hc,?_⟩
   intro i j x v hi hv
   rw [List.getElem?_map] at hi
   by_cases hil : i < len
   ·rw [List.getElem?_range hil] at hi
    simp only [Option.map_some,Option.some.injEq] at hi
    subst hi
    have hj : j < 14:=by
     have:=(List.getElem?_eq_some_iff.1 hv).1
     rwa [(hq i hil).1.1] at this
    have:=(hq i hil).1.2 j hj
    rw [hadd,hv] at this
    rw [Nat.add_assoc]
    exact this
   ·rw [List.getElem?_eq_none (by simp;omega)] at hi
    cases hi
end
section
set_option linter.unusedVariables false
open Go.RowKit Go.Shelf Go.Sort
variable {Sh : World → Nat → (Nat → Prop) → Nat → Nat → Hs → Prop}
def jMt (c : Cv) : Prop:=c.key.size ≤ 300 ∧ c.val.length ≤ 2000 ∧ c.exp ≤ 1099511627776 ∧ -1099511627776 ≤ c.exp
def FewL (os : List jD4) : Prop:=os.length ≤ 80 ∧ ∀ o ∈ os,jMt o.cv ∧ -1 ≤ o.en.now ∧ o.en.now ≤ 1099511627776
theorem jPz {w w' : World} {b o : Nat} {v : Value} (h : w.cell? ⟨b,o,none⟩ = some v) (hg : w.grownBy w' none) : w'.cell? ⟨b,o,none⟩ = some v:=by
 unfold World.cell? at h ⊢
 cases hb : w.heap[b]? with
 | none => rw [hb] at h;cases h
 | some x =>
  rw [(hg.block b (Array.getElem?_eq_some_iff.1 hb).1 (by simp)).trans hb]
  rwa [hb] at h
theorem jMu {w w' w'' : World} (h : w.grownBy w' none) (h' : w'.grownBy w'' none) : w.grownBy w'' none:=jB9 (jN3 (jN3 (Below.refl _ w) h fun _ e => by cases e) h' fun _ e => by cases e)
def QPost (P : Prop) (w : World) (e : Ending) (w' : World) : Prop:=(∃ q : Bool,e = .returned (.bool q) ∧ (q = true ↔ P)) ∧ w.grownBy w' none
theorem kMs (c : Cv) (hc : c.ok) (a : Option Addr) (k : Nat) (w : World) : Calls Tryz.prog 21 #[.agg (cmC c a k)] w (QPost (jMt c) w):=by
 have hg:=World.grownBy_alloc w (.cells (cmC c a k) 33) none
 have h0:=heap_alloc_new w (.cells (cmC c a k) 33)
 obtain ⟨-,c1,c2,-,c4,-⟩:=jAf h0
 have hk:=hc.key
 have hv:=hc.val
 obtain ⟨p,hp⟩ : ∃ p,c.val.length = p:=⟨_,rfl⟩
 rw [hp] at c2 hv
 have HP:=jAa hp
 clear hp h0
 by_cases q1 : c.key.size ≤ 300
 case neg =>
  have q1i : ¬ ((c.key.size : Int) ≤ 300):=by omega
  go_enter Tryz.func21,Tryz.ntmps21
  go_wp2
  go_ret
  exact ⟨⟨false,by simp,by simp [jMt];omega⟩,hg⟩
 have q1i : (c.key.size : Int) ≤ 300:=by omega
 by_cases q2 : p ≤ 2000
 case neg =>
  have q2i : ¬ ((p : Int) ≤ 2000):=by omega
  go_enter Tryz.func21,Tryz.ntmps21
  go_wp2
  go_ret
  exact ⟨⟨false,by simp,by have:=HP.out;simp [jMt];omega⟩,hg⟩
 have q2i : (p : Int) ≤ 2000:=by omega
 by_cases q3 : c.exp ≤ 1099511627776
 case neg =>
  go_enter Tryz.func21,Tryz.ntmps21
  go_wp2
  go_ret
  exact ⟨⟨false,by simp,by simp [jMt];omega⟩,hg⟩
 by_cases q4 : -1099511627776 ≤ c.exp
 case neg =>
  go_enter Tryz.func21,Tryz.ntmps21
  go_wp2
  go_ret
  exact ⟨⟨false,by simp,by simp [jMt];omega⟩,hg⟩
 go_enter Tryz.func21,Tryz.ntmps21
 go_wp2
 go_ret
 exact ⟨⟨true,by simp,⟨fun _ => ⟨q1,by rw [HP.out];exact q2,q3,q4⟩,fun _ => rfl⟩⟩,hg⟩
theorem kBc {w : World} {a : Option Addr} {len cap : Nat} {os : List jD4} (h : jHy w a len cap os) : Calls Tryz.prog 6 #[.slice a len cap] w (QPost (FewL os) w):=by
 have hl:=h.len_
 have hm:=h.2
 go_enter Tryz.func6,Tryz.ntmps6
 by_cases h80 : 80 < len
 ·have h80i : (80 : Int) < (len : Int):=by omega
  go_wp2
  go_ret
  exact ⟨⟨false,rfl,by simp [FewL];omega⟩,⟨rfl,rfl,rfl,Nat.le_refl _,fun _ _ _ => rfl⟩⟩
 ·have h80i : (len : Int) ≤ 80:=by omega
  go_wp2
  go_loopw [3,4] (fun i f wr => ∃ k : Nat,k ≤ len ∧ i = .int .i64 k ∧ w.grownBy wr none ∧ ∀ j (hj : j < os.length),j < k → jMt os[j].cv ∧ -1 ≤ os[j].en.now ∧ os[j].en.now ≤ 1099511627776) (fun i _ _ => len - (intOf i).toNat)
  case atStart => exact ⟨0,Nat.zero_le _,rfl,⟨rfl,rfl,rfl,Nat.le_refl _,fun _ _ _ => rfl⟩,fun j _ h => by omega⟩
  case round =>
   obtain ⟨k,hk,rfl,hg,hall⟩:=hrel
   by_cases hlt : k < len
   ·have hki : (k : Int) < (len : Int):=by omega
    have hB:=jN3 (Below.refl _ w) hg (fun _ e => by cases e)
    obtain ⟨ca,off,rfl,hcell,hok⟩:=h.at k (by omega)
    have H1:=hcell.on (Nat.le_refl _) hB
    have c1:=H1.cm
    have c2:=H1.all 10
    have hok':=hok.cv
    generalize hkv : os[k] = o at *
    have c3:=c2 _ rfl
    have HF:=jAa (kMs o.cv hok' o.a o.k)
    have HG:=jAa hg
    have HA:=jAa hall
    have HKV:=jAa hkv
    clear hcell H1 hok c2 hg hall hkv hok'
    by_cases q1 : jMt o.cv
    ·by_cases q2 : o.en.now ≤ 1099511627776
     ·by_cases q3 : -1 ≤ o.en.now
      ·have HQ:=jAa q1
       clear q1
       go_wp2_with (first
        | (refine wpList_load_mid rfl 33 _ rfl ca (off + k * 14) rfl (cmC o.cv o.a o.k).toList _ c1 Tryz.underlying33 rfl (by rw [jGz o.cv o.a o.k,Array.length_toList]) ?_)
        | (go_at_call 21;refine (HF.out _).mono ?_;rintro e w1 ⟨⟨fq,rfl,hfq⟩,hg1⟩;obtain rfl : fq = true:=hfq.2 HQ.out;have c4:=jPz c3 hg1;clear c3 hfq))
       go_roundw
       case rel =>
        refine ⟨k + 1,by omega,by go_num,jMu HG.out hg1,fun j hj hjk => ?_⟩
        by_cases e : j = k
        ·subst e
         rw [HKV.out]
         exact ⟨HQ.out,q3,q2⟩
        ·exact HA.out j hj (by omega)
       case measure => simp [intOf];omega
      ·have HQ:=jAa q1
       clear q1
       go_wp2_with (first
        | (refine wpList_load_mid rfl 33 _ rfl ca (off + k * 14) rfl (cmC o.cv o.a o.k).toList _ c1 Tryz.underlying33 rfl (by rw [jGz o.cv o.a o.k,Array.length_toList]) ?_)
        | (go_at_call 21;refine (HF.out _).mono ?_;rintro e w1 ⟨⟨fq,rfl,hfq⟩,hg1⟩;obtain rfl : fq = true:=hfq.2 HQ.out;have c4:=jPz c3 hg1;clear c3 hfq))
       go_ret
       exact ⟨⟨false,rfl,by simp;intro hf;have:=hf.2 o (HKV.out ▸ List.getElem_mem _);omega⟩,jMu HG.out hg1⟩
     ·have HQ:=jAa q1
      clear q1
      go_wp2_with (first
       | (refine wpList_load_mid rfl 33 _ rfl ca (off + k * 14) rfl (cmC o.cv o.a o.k).toList _ c1 Tryz.underlying33 rfl (by rw [jGz o.cv o.a o.k,Array.length_toList]) ?_)
       | (go_at_call 21;refine (HF.out _).mono ?_;rintro e w1 ⟨⟨fq,rfl,hfq⟩,hg1⟩;obtain rfl : fq = true:=hfq.2 HQ.out;have c4:=jPz c3 hg1;clear c3 hfq))
      go_ret
      exact ⟨⟨false,rfl,by simp;intro hf;have:=hf.2 o (HKV.out ▸ List.getElem_mem _);omega⟩,jMu HG.out hg1⟩
    ·have HQ:=jAa q1
     clear q1
     go_wp2_with (first
      | (refine wpList_load_mid rfl 33 _ rfl ca (off + k * 14) rfl (cmC o.cv o.a o.k).toList _ c1 Tryz.underlying33 rfl (by rw [jGz o.cv o.a o.k,Array.length_toList]) ?_)
      | (go_at_call 21;refine (HF.out _).mono ?_;rintro e w1 ⟨⟨fq,rfl,hfq⟩,hg1⟩;obtain rfl : fq = false:=Bool.eq_false_iff.2 fun e => HQ.out (hfq.1 e);have c4:=jPz c3 hg1;clear c3 hfq))
     go_ret
     exact ⟨⟨false,rfl,by simp;intro hf;have:=hf.2 o (HKV.out ▸ List.getElem_mem _);exact HQ.out this.1⟩,jMu HG.out hg1⟩
   ·obtain rfl : k = len:=by omega
    go_wp2
    go_ret
    refine ⟨⟨true,rfl,⟨fun _ => ⟨by omega,fun o ho => ?_⟩,fun _ => rfl⟩⟩,hg⟩
    obtain ⟨j,hj,rfl⟩:=List.mem_iff_getElem.1 ho
    exact hall j hj (by omega)
section
variable {L : jA7 Sh} {w0 w : World} {R : jAd}
end
def kK : ByteArray:=⟨#[107]⟩
def en1 : En:=⟨1,0,0,0⟩
theorem kI0 : ∃ r1 t1 r2 t2 r3 t3,doH 1 (jG8 1000 3) (setC kK [53] 0 0 0) en1 = (r1,t1) ∧ r1.s = 2 ∧ doH 1 t1 (jRt 10 kK 3) en1 = (r2,t2) ∧ r2.s = 7 ∧ r2.num = 8 ∧ doH 1 t2 (jRt 11 kK 9) en1 = (r3,t3) ∧ r3.s = 7 ∧ r3.num = 0 :=
 ⟨_,_,_,_,_,_,rfl,by kernel_rfl,rfl,by kernel_rfl,by kernel_rfl,rfl,by kernel_rfl,by kernel_rfl⟩
theorem jIy {w : World} {r : Rv} {a : Option Addr} {k g : Nat} {t : TypeId} (h : w.heap[g]? = some (.cells (rsC r a k) t (0,0))) : w.cell? ⟨g,0,none⟩ = some (.int .i64 r.s) ∧ w.cell? ⟨g,1,none⟩ = some (.slice a r.val.length k) ∧ w.cell? ⟨g,2,none⟩ = some (.int .u32 r.fl) ∧ w.cell? ⟨g,3,none⟩ = some (.int .u64 r.cas) ∧ w.cell? ⟨g,4,none⟩ = some (.int .i64 r.ttl) ∧ w.cell? ⟨g,5,none⟩ = some (.int .u64 r.num) ∧ w.cell? ⟨g,6,none⟩ = some (.bool r.st) ∧ w.cell? ⟨g,7,none⟩ = some (.bool r.won) ∧ w.cell? ⟨g,8,none⟩ = some (.bool r.lost):=by
 simp [World.cell?,h,rsC]
section
variable {L : jA7 Sh} {w0 w : World} {R : jAd}
theorem kM5 {k : ByteArray} (hk : k.size ≤ 140737488351232) {v : List UInt8} (hv : v.length ≤ 140737488351232) {fl exp cas : Int} (he : I64 exp) (hs : U64 cas) : (setC k v fl exp cas).ok:=⟨⟨by show (-9223372036854775808 : Int) ≤ 3;decide,by show (3 : Int) < 9223372036854775808;decide⟩,hk,hv,he,hs,zu64,zu64⟩
theorem kBf {k : ByteArray} (hk : k.size ≤ 140737488351232) {op del : Int} (ho : I64 op) (hd : U64 del) : (jRt op k del).ok:=⟨ho,hk,Nat.zero_le _,z64,zu64,hd,zu64⟩
abbrev oneO (x : UInt8) : Obj:=.cells #[.int .u8 x.toNat] 5 (1,2)
theorem kN7 {W : World} {g : Nat} {x : UInt8} (h : W.heap[g]? = some (oneO x)) : Bs W (some ⟨g,0,none⟩) 1 1 (jA6 [x]):=by
 refine .inr ⟨g,0,rfl,by decide,Nat.le_refl _,rfl,jQ8 [x],fun i hi => ?_,(Array.getElem?_eq_some_iff.1 h).1⟩
 obtain rfl : i = 0:=by omega
 unfold World.cell?
 rw [h]
 rfl
theorem one_rd (w0 : World) (g : Nat) (x : UInt8) : Rd w0 (jAn g (oneO x)) (some ⟨g,0,none⟩) 1 [x]:=Rd.box rfl fun W h => kN7 h
theorem jVg (L : jA7 Sh) (H : Law w0 w R) (hLd : jBr w0) : Calls Tryz.prog 5 #[] w fun e w' => e = .returned (.bool true) ∧ Law w0 w' R:=by
 have h7 : (1 : Nat) < 18446744073709551616:=by decide
 have hen : en1.ok:=by constructor <;> constructor <;> decide
 have k1 : (setC kK [53] 0 0 0).ok:=kM5 (by decide) (by decide) z64 zu64
 have k2 : (jRt 10 kK 3).ok:=kBf (by decide) ⟨by decide,by decide⟩ ⟨by decide,by decide⟩
 have k3 : (jRt 11 kK 9).ok:=kBf (by decide) ⟨by decide,by decide⟩ ⟨by decide,by decide⟩
 have HN:=jAa (fun W (HW : Law w0 W R) => jR2 L HW 1 1000 3 h7 ⟨by decide,by decide⟩ ⟨by decide,by decide⟩)
 have HK0:=jAa (fun W => jI6 0 W)
 have HK1:=jAa (fun W => jI6 14 W)
 rw [show jCc 0 = true from rfl] at HK0
 rw [show jCc 14 = false from rfl] at HK1
 obtain ⟨r1,t1,r2,t2,r3,t3,q1,s1,q2,s2,n2,q3,s3,n3⟩:=kI0
 generalize jG8 1000 3 = st0 at *
 have D1:=jAa (fun (W : World) (own : Nat → Prop) (b : Nat) (R' : jAd) (va : Option Addr) (vc : Nat) (HW : Law w0 W ((shQ L b own 1 0 st0).and R')) (hrd : Rd w0 R' va vc [53]) => jSo (c:=setC kK [53] 0 0 0) HW hLd (by decide) (.inl (by decide)) hen k1 hrd)
 have D2:=jAa (fun (W : World) (own : Nat → Prop) (b : Nat) (R' : jAd) (HW : Law w0 W ((shQ L b own 1 1 t1).and R')) => jSo (c:=jRt 10 kK 3) (va:=none) (vc:=0) HW hLd (by decide) (.inl (by decide)) hen k2 Rd.nil)
 have D3:=jAa (fun (W : World) (own : Nat → Prop) (b : Nat) (R' : jAd) (HW : Law w0 W ((shQ L b own 1 2 t2).and R')) => jSo (c:=jRt 11 kK 9) (va:=none) (vc:=0) HW hLd (by decide) (.inl (by decide)) hen k3 Rd.nil)
 rw [q1] at D1
 rw [q2] at D2
 rw [q3] at D3
 clear q1 q2 q3
 go_enter Tryz.func5,Tryz.ntmps5
 go_upto_region 5 with (go_at_call 7;refine (HN.out _ H).mono ?_;rintro e w1 ⟨b,own,rfl,H1⟩;clear H HN)
 obtain ⟨w2,hw2⟩ : ∃ w2,w1.alloc (.cells (enC en1) 35) = w2:=⟨_,rfl⟩
 have H2:=(H1.box (.cells (enC en1) 35)).rot
 rw [hw2] at H2
 rw [show w1.alloc (.cells #[.int .i64 1,.int .u64 0,.int .i64 0,.int .u64 0] 35) = w2 from hw2]
 clear H1 hw2
 have hcv:=Lib.run_convert_bytes_const (P:=Tryz.prog) w2 30 5 #[.int .u8 53] 1 1 Tryz.underlying30 Tryz.underlying5
 have H3:=(H2.box (oneO 53)).rot
 go_upto_region 6 with (first
  | (refine ldE w1.heap.size en1 rfl _ rfl rfl H3.right.right.q.1 ?_)
  | (go_at_call 10;refine (D1.out _ _ _ _ _ _ H3 (one_rd w0 _ _).left).mono ?_;rintro e w4 ⟨a4,c4,own4,rfl,H4⟩;have H5:=(H4.drop2.box (.cells (rsC r1 a4 c4) 40)).rot;clear H4 H3 H2)
  | (refine stR_ w4.heap.size r1 a4 c4 rfl _ _ rfl rfl rfl (World.alloc_heap_new w4 _) ?_;rw [jAq];generalize w4.alloc (.cells (rsC r1 a4 c4) 40) = w5 at *))
 go_upto_region 7 with (first
  | (refine ldE w1.heap.size en1 rfl _ rfl rfl H5.right.right.right.q.1 ?_)
  | (go_at_call 10;refine (D2.out _ _ _ _ H5).mono ?_;rintro e w6 ⟨a6,c6,own6,rfl,H6⟩;have H7:=(H6.drop2.box (.cells (rsC r2 a6 c6) 40)).rot;clear H6 H5)
  | (refine stR_ w6.heap.size r2 a6 c6 rfl _ _ rfl rfl rfl (World.alloc_heap_new w6 _) ?_;rw [jAq];generalize w6.alloc (.cells (rsC r2 a6 c6) 40) = w7 at *))
 go_upto_region 8 with (first
  | (refine ldE w1.heap.size en1 rfl _ rfl rfl H7.right.right.right.right.q.1 ?_)
  | (go_at_call 10;refine (D3.out _ _ _ _ H7).mono ?_;rintro e w8 ⟨a8,c8,own8,rfl,H8⟩;have H9:=(H8.drop2.box (.cells (rsC r3 a8 c8) 40)).rot;clear H8 H7)
  | (refine stR_ w8.heap.size r3 a8 c8 rfl _ _ rfl rfl rfl (World.alloc_heap_new w8 _) ?_;rw [jAq];generalize w8.alloc (.cells (rsC r3 a8 c8) 40) = w9 at *))
 have x3:=(jIy H9.right.q.1).1
 have y3:=(jIy H9.right.q.1).2.2.2.2.2.1
 have x2:=(jIy H9.right.right.q.1).1
 have y2:=(jIy H9.right.right.q.1).2.2.2.2.2.1
 have x1:=(jIy H9.right.right.right.q.1).1
 rw [s1] at x1
 rw [s2] at x2
 rw [s3] at x3
 rw [n2] at y2
 rw [n3] at y3
 have HR:=H9.right.right.right.right.right.right
 clear s1 s2 s3 n2 n3 H9
 go_wp2_with (first
  | (go_at_call 13;refine (HK0.out _).mono ?_;rintro e w10 ⟨rfl,rfl⟩)
  | (go_at_call 13;refine (HK1.out _).mono ?_;rintro e w10 ⟨rfl,rfl⟩))
 go_ret
 exact ⟨rfl,HR⟩
end
end
end Go.Proofs.YtkfeafmpaodagaaGreatDoor
