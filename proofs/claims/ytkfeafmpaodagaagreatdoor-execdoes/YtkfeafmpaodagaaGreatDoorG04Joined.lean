/- Items and envs as values, and what is said of them: nothing of the program is run here. Conditions: none. An item and an env in boxes of a statement's own. Conditions: none. -/
import Derived.Test.YtkfeafmpaodagaaGreatDoorG00Joined
import Derived.Test.YtkfeafmpaodagaaGreatDoorG02Joined
import Derived.Sort.Grow
namespace Go.Proofs.YtkfeafmpaodagaaGreatDoor
set_option maxHeartbeats 16000000
section
open Go.RowKit Go.Sort
structure It where
 key : ByteArray
 va : Option Addr
 vl : Nat
 vc : Nat
 fl : Int
 exp : Int
 cas : Int
 sec : Int
 seq : Int
 st : Bool
 won : Bool
 seen : Bool
structure En where
 now : Int
 seq : Int
 flush : Int
 fseq : Int
def itC (i : It) : Array Value:=#[.string i.key,.slice i.va i.vl i.vc,.int .u32 i.fl,.int .i64 i.exp,.int .u64 i.cas,.int .i64 i.sec,.int .u64 i.seq,.bool i.st,.bool i.won,.bool i.seen]
def enC (e : En) : Array Value:=#[.int .i64 e.now,.int .u64 e.seq,.int .i64 e.flush,.int .u64 e.fseq]
def U64 (a : Int) : Prop:=0 ≤ a ∧ a < 18446744073709551616
structure It.ok (i : It) : Prop where
 key : i.key.size ≤ maxLen
 vl : i.vl ≤ maxLen
 exp : I64 i.exp
 sec : I64 i.sec
 seq : U64 i.seq
structure En.ok (e : En) : Prop where
 now : I64 e.now
 seq : U64 e.seq
 flush : I64 e.flush
 fseq : U64 e.fseq
def atN (exp now : Int) : Int:=if exp = 0 then 0 else if exp < 0 then max now 1 else if exp ≤ 2592000 then max now 1 + exp else exp
def atW (exp now : Int) : Int:=if exp = 0 then 0 else if exp < 0 then max now 1 else if exp ≤ 2592000 then wrap64 (max now 1 + exp) else exp
def jCv (exp now : Int) : Int:=if exp = 0 then -1 else if exp ≤ now then 0 else wrap64 (exp - now)
abbrev jHw (sec seq s q : Int) : Prop:=sec < s ∨ (sec = s ∧ seq < q)
def jDd (exp sec seq : Int) (e : En) : Bool:=if exp ≠ 0 ∧ exp ≤ e.now then false else if e.flush = 0 ∨ e.now < e.flush then true else !decide (jHw sec seq e.flush e.fseq)
def T40 (a : Int) : Prop:=-1099511627776 ≤ a ∧ a ≤ 1099511627776
def N41 (a : Int) : Prop:=-1 ≤ a ∧ a ≤ 2199023255552
def Gd (w w' : World) : Prop:=∃ q os,w' = grow (w.drewN q) os
theorem Gd.refl (w : World) : Gd w w:=⟨0,#[],by rw [grow_empty];rfl⟩
theorem Gd.alloc (w : World) (o : Obj) : Gd w (w.alloc o):=⟨0,#[o],by rw [alloc_eq_grow];rfl⟩
theorem kDo (w : World) (os : Array Obj) (n : Nat) : (grow w os).drewN n = grow (w.drewN n) os:=rfl
theorem Gd.trans {a b c : World} (h : Gd a b) (k : Gd b c) : Gd a c:=by
 obtain ⟨q,os,rfl⟩:=h
 obtain ⟨q',os',rfl⟩:=k
 exact ⟨q + q',os ++ os',by rw [kDo,grow_grow,World.drewN_drewN]⟩
theorem Gd.grown {w w' : World} (h : Gd w w') : w.grownBy w' none:=by
 obtain ⟨q,os,rfl⟩:=h
 refine ⟨rfl,rfl,rfl,?_,fun k hk _ => ?_⟩
 ·show w.heap.size ≤ (w.heap ++ os).size
  rw [Array.size_append]
  omega
 ·show (w.heap ++ os)[k]? = w.heap[k]?
  exact Array.getElem?_append_left hk
theorem jFu {w w' : World} {k : Nat} {o : Obj} (hg : w.grownBy w' none) (h : w.heap[k]? = some o) : w'.heap[k]? = some o:=(hg.block k (Array.getElem?_eq_some_iff.1 h).1 (by simp)).trans h
theorem jAk {w : World} {k : Nat} {t : TypeId} {i : It} (h : w.heap[k]? = some (.cells (itC i) t (0,0))) :
  w.cell? ⟨k,0,none⟩ = some (.string i.key) ∧ w.cell? ⟨k,1,none⟩ = some (.slice i.va i.vl i.vc) ∧ w.cell? ⟨k,2,none⟩ = some (.int .u32 i.fl) ∧ w.cell? ⟨k,3,none⟩ = some (.int .i64 i.exp) ∧ w.cell? ⟨k,4,none⟩ = some (.int .u64 i.cas) ∧
  w.cell? ⟨k,5,none⟩ = some (.int .i64 i.sec) ∧ w.cell? ⟨k,6,none⟩ = some (.int .u64 i.seq) ∧ w.cell? ⟨k,7,none⟩ = some (.bool i.st) ∧ w.cell? ⟨k,8,none⟩ = some (.bool i.won) ∧ w.cell? ⟨k,9,none⟩ = some (.bool i.seen):=by
 simp [World.cell?,h,itC]
theorem jBx {w : World} {k : Nat} {t : TypeId} {e : En} (h : w.heap[k]? = some (.cells (enC e) t (0,0))) : w.cell? ⟨k,0,none⟩ = some (.int .i64 e.now) ∧ w.cell? ⟨k,1,none⟩ = some (.int .u64 e.seq) ∧ w.cell? ⟨k,2,none⟩ = some (.int .i64 e.flush) ∧ w.cell? ⟨k,3,none⟩ = some (.int .u64 e.fseq):=by
 simp [World.cell?,h,enC]
theorem jMn {w : World} {k : Nat} {o : Obj} (h : w.heap[k]? = some o) (n : Nat) (os : Array Obj) : (grow (w.drewN n) os).heap[k]? = some o:=jFu (Gd.grown ⟨n,os,rfl⟩) h
theorem kF1 {w : World} {k : Nat} {t : TypeId} {i : It} (h : w.heap[k]? = some (.cells (itC i) t (0,0))) :
  (∀ n os,(grow (w.drewN n) os).cell? ⟨k,0,none⟩ = some (.string i.key)) ∧ (∀ n os,(grow (w.drewN n) os).cell? ⟨k,1,none⟩ = some (.slice i.va i.vl i.vc)) ∧ (∀ n os,(grow (w.drewN n) os).cell? ⟨k,2,none⟩ = some (.int .u32 i.fl)) ∧ (∀ n os,(grow (w.drewN n) os).cell? ⟨k,3,none⟩ = some (.int .i64 i.exp)) ∧
  (∀ n os,(grow (w.drewN n) os).cell? ⟨k,4,none⟩ = some (.int .u64 i.cas)) ∧ (∀ n os,(grow (w.drewN n) os).cell? ⟨k,5,none⟩ = some (.int .i64 i.sec)) ∧ (∀ n os,(grow (w.drewN n) os).cell? ⟨k,6,none⟩ = some (.int .u64 i.seq)) ∧ (∀ n os,(grow (w.drewN n) os).cell? ⟨k,7,none⟩ = some (.bool i.st)) ∧
  (∀ n os,(grow (w.drewN n) os).cell? ⟨k,8,none⟩ = some (.bool i.won)) ∧ (∀ n os,(grow (w.drewN n) os).cell? ⟨k,9,none⟩ = some (.bool i.seen)):=by
 have h':=fun n os => jAk (jMn h n os)
 exact ⟨fun n os => (h' n os).1,fun n os => (h' n os).2.1,fun n os => (h' n os).2.2.1,fun n os => (h' n os).2.2.2.1,fun n os => (h' n os).2.2.2.2.1,fun n os => (h' n os).2.2.2.2.2.1,fun n os => (h' n os).2.2.2.2.2.2.1,fun n os => (h' n os).2.2.2.2.2.2.2.1,fun n os => (h' n os).2.2.2.2.2.2.2.2.1,fun n os => (h' n os).2.2.2.2.2.2.2.2.2⟩
theorem jVx {w : World} {k : Nat} {t : TypeId} {e : En} (h : w.heap[k]? = some (.cells (enC e) t (0,0))) : (∀ n os,(grow (w.drewN n) os).cell? ⟨k,0,none⟩ = some (.int .i64 e.now)) ∧ (∀ n os,(grow (w.drewN n) os).cell? ⟨k,1,none⟩ = some (.int .u64 e.seq)) ∧ (∀ n os,(grow (w.drewN n) os).cell? ⟨k,2,none⟩ = some (.int .i64 e.flush)) ∧ (∀ n os,(grow (w.drewN n) os).cell? ⟨k,3,none⟩ = some (.int .u64 e.fseq)):=by
 have h':=fun n os => jBx (jMn h n os)
 exact ⟨fun n os => (h' n os).1,fun n os => (h' n os).2.1,fun n os => (h' n os).2.2.1,fun n os => (h' n os).2.2.2⟩
end
section
open Go.RowKit Go.Sort
end
end Go.Proofs.YtkfeafmpaodagaaGreatDoor
