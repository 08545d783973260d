/- The contracts of package slab, over a word 'Sl' that says what a slab in memory has. Nothing of the program is walked here. Conditions: none. The contracts of package slru, over a word 'Ls' that says what a list in memory has. Nothing of the program is walked here. Conditions: none. The contracts of package tiny, over a word 'Jd' that says what a judge in memory has seen. Nothing of the program is walked here. Conditions: none. The contracts of package table, for numbers, over a word 'Tb' that says what a table in memory has. Nothing of the program is walked here. Conditions: none. The contracts of package item. Nothing of the program is walked here. Conditions: none. -/
import Derived.Test.YtkfeafmpaodagaaGreatDoorG00Joined
import Derived.Test.YtkfeafmpaodagaaGreatDoorG03Joined
import Derived.Test.YtkfeafmpaodagaaGreatDoorG02Joined
import Derived.Test.YtkfeafmpaodagaaGreatDoorG01Joined
import Derived.Test.YtkfeafmpaodagaaGreatDoorG04Joined
namespace Go.Proofs.YtkfeafmpaodagaaGreatDoor
set_option maxHeartbeats 16000000
section
open Go.RowKit
def ckV (c : Ck) : Value:=.agg #[.int .i64 c.1,.int .i64 c.2]
def jJl (c : Ck) : Prop:=I64 c.1 ∧ I64 c.2
structure kA3 (Sl : World → Nat → (Nat → Prop) → Sb → Prop) : Prop where
 lt : ∀ {w b own st},Sl w b own st → ∀ k,own k → k < w.heap.size
 good : ∀ {w b own st},Sl w b own st → jDo st ∧ I64 st.bud
 keep : ∀ {w w' b own st},Sl w b own st → (∀ k,own k → w'.heap[k]? = w.heap[k]?) → Sl w' b own st
 new : ∀ (bud : Int),I64 bud → ∀ w : World,Calls Tryz.prog 23 #[.int .i64 bud] w fun e w' => ∃ b own,e = .returned (.pointer (some ⟨b,0,none⟩)) ∧ (∀ k,own k → w.heap.size ≤ k) ∧ Sl w' b own (jEt bud) ∧ w.grownBy w' none
 cls : ∀ (size : Int),I64 size → ∀ w : World,Calls Tryz.prog 162 #[.int .i64 size] w fun e w' => e = .returned (.tuple #[.int .i64 (jA1 size),.int .i64 (jBo size)]) ∧ w.grownBy w' none
 bytes : ∀ (k : Int),I64 k → ∀ w : World,Calls Tryz.prog 171 #[.int .i64 k] w fun e w' => e = .returned (.int .i64 (jAu k)) ∧ w.grownBy w' none
 take : ∀ {w b own st},Sl w b own st → Small st 10000 → ∀ size : Int,I64 size → Calls Tryz.prog 195 #[.pointer (some ⟨b,0,none⟩),.int .i64 size] w fun e w' => e = .returned (.tuple #[ckV (jBp st size),.int .i64 (jB1 st size)]) ∧ ∃ own',Sl w' b own' (takeS st size) ∧ Gr own w w' ∧ jBm w own own'
 free : ∀ {w b own st},Sl w b own st → Small st 10000 → ∀ c : Ck,jJl c → Calls Tryz.prog 141 #[.pointer (some ⟨b,0,none⟩),ckV c] w fun e w' => e = .returned (.int .i64 (jJc st c)) ∧ ∃ own',Sl w' b own' (jBj st c) ∧ Gr own w w' ∧ jBm w own own'
 has : ∀ {w b own st},Sl w b own st → Small st 10000 → ∀ c : Ck,jJl c → Calls Tryz.prog 170 #[.pointer (some ⟨b,0,none⟩),ckV c] w fun e w' => e = .returned (.bool (decide (c ∈ st.inn))) ∧ Sl w' b own st ∧ w.grownBy w' none
 used : ∀ {w b own st},Sl w b own st → Small st 10000 → Calls Tryz.prog 84 #[.pointer (some ⟨b,0,none⟩)] w fun e w' => e = .returned (.int .i64 (jBn st)) ∧ Sl w' b own st ∧ w.grownBy w' none
 fits : ∀ {w b own st},Sl w b own st → Small st 10000 → ∀ size less : Int,I64 size → I64 less → Calls Tryz.prog 192 #[.pointer (some ⟨b,0,none⟩),.int .i64 size,.int .i64 less] w fun e w' => e = .returned (.bool (jB3 st size less)) ∧ Sl w' b own st ∧ w.grownBy w' none
variable {Sl : World → Nat → (Nat → Prop) → Sb → Prop}
end
section
open Go.RowKit Go.Shelf
def jS5 (s : ByteArray) : Array Value:=#[.string s]
structure kBj (Ls : World → Nat → (Nat → Prop) → Sr → Prop) : Prop where
 lt : ∀ {w b own st},Ls w b own st → ∀ k,own k → k < w.heap.size
 good : ∀ {w b own st},Ls w b own st → jHz st
 keep : ∀ {w w' b own st},Ls w b own st → jMh own w w' → Ls w' b own st
 new : ∀ (most : Int),I64 most → ∀ w : World,Calls Tryz.prog 24 #[.int .i64 most] w fun e w' => ∃ b own,e = .returned (.pointer (some ⟨b,0,none⟩)) ∧ (∀ k,own k → w.heap.size ≤ k) ∧ Ls w' b own (jIg most) ∧ w.grownBy w' none
 add : ∀ {w b own st},Ls w b own st → (jA3 st).length < maxLen → ∀ s : ByteArray,s.size ≤ maxLen → Calls Tryz.prog 194 #[.pointer (some ⟨b,0,none⟩),.string s] w fun e w' => e = .returned (.int .i64 (jMd st s)) ∧ ∃ own',Ls w' b own' (jJ9 st s) ∧ Gr own w w' ∧ jBm w own own'
 hit : ∀ {w b own st},Ls w b own st → (jA3 st).length ≤ maxLen → ∀ s : ByteArray,s.size ≤ maxLen → Calls Tryz.prog 56 #[.pointer (some ⟨b,0,none⟩),.string s] w fun e w' => e = .returned (.int .i64 (jJu st s)) ∧ ∃ own',Ls w' b own' (jE9 st s) ∧ Gr own w w' ∧ jBm w own own'
 remove : ∀ {w b own st},Ls w b own st → (jA3 st).length ≤ maxLen → ∀ s : ByteArray,s.size ≤ maxLen → Calls Tryz.prog 142 #[.pointer (some ⟨b,0,none⟩),.string s] w fun e w' => e = .returned (.int .i64 (jJu st s)) ∧ ∃ own',Ls w' b own' (jHf st s) ∧ Gr own w w' ∧ jBm w own own'
 victim : ∀ {w b own st},Ls w b own st → (jA3 st).length ≤ maxLen → ∀ s : ByteArray,s.size ≤ maxLen → Calls Tryz.prog 191 #[.pointer (some ⟨b,0,none⟩),.string s] w fun e w' => e = .returned (.tuple #[.string ((jDe st s).getD ⟨#[]⟩),.bool (jDe st s).isSome]) ∧ Ls w' b own st ∧ w.grownBy w' none
end
section
open Go.RowKit
structure jT7 (Jd : World → Nat → List Nat → Nat → Js → Prop) : Prop where
 lt : ∀ {w b bs sd j},Jd w b bs sd j → ∀ k ∈ bs,k < w.heap.size
 good : ∀ {w b bs sd j},Jd w b bs sd j → jMw j ∧ sd < 18446744073709551616
 keep : ∀ {w w' b bs sd j},Jd w b bs sd j → (∀ k ∈ bs,w'.heap[k]? = w.heap[k]?) → Jd w' b bs sd j
 new : ∀ (sd : Nat),sd < 18446744073709551616 → ∀ w : World,Calls Tryz.prog 25 #[.int .u64 sd] w fun e w' => ∃ b bs,e = .returned (.pointer (some ⟨b,0,none⟩)) ∧ (∀ k ∈ bs,w.heap.size ≤ k) ∧ Jd w' b bs sd jIn ∧ w.grownBy w' none
 touch : ∀ {w b bs sd j},Jd w b bs sd j → ∀ s : ByteArray,s.size ≤ 140737488351232 → Calls Tryz.prog 55 #[.pointer (some ⟨b,0,none⟩),.string s] w fun e w' => (∃ v,e = .returned v) ∧ Jd w' b bs sd (jKt sd j s.data.toList) ∧ Gr (· ∈ bs) w w'
 worth : ∀ {w b bs sd j},Jd w b bs sd j → ∀ s : ByteArray,s.size ≤ 140737488351232 → Calls Tryz.prog 212 #[.pointer (some ⟨b,0,none⟩),.string s] w fun e w' => e = .returned (.int .i64 (jCt sd j s.data.toList)) ∧ Jd w' b bs sd j ∧ w.grownBy w' none
 admits : ∀ {w b bs sd j},Jd w b bs sd j → ∀ s t : ByteArray,s.size ≤ 140737488351232 → t.size ≤ 140737488351232 → Calls Tryz.prog 193 #[.pointer (some ⟨b,0,none⟩),.string s,.string t] w fun e w' => e = .returned (.bool (decide (jCt sd j t.data.toList < jCt sd j s.data.toList))) ∧ Jd w' b bs sd j ∧ w.grownBy w' none
variable {Jd : World → Nat → List Nat → Nat → Js → Prop}
end
section
open Go.RowKit Go.Shelf
structure Ts where
 l : List Kv
 buckets : Nat
 left : Nat
def jL8 : Ts:=⟨[],8,0⟩
def jEc (st : Ts) : Ts:=⟨st.l,st.buckets,st.left - 1⟩
def jFn (st : Ts) : Ts:=if 2 * st.buckets < st.l.length ∧ st.left = 0 then ⟨st.l,2 * st.buckets,st.buckets⟩ else st
def putT (st : Ts) (k : ByteArray) (v : Int) : Ts:=jFn ⟨jEs k v st.l,st.buckets,st.left - 1⟩
def delT (st : Ts) (k : ByteArray) : Ts:=⟨jG0 k st.l,st.buckets,st.left - 1⟩
def jE3 (st : Ts) (k : ByteArray) : Bool:=(jEh k st.l).isSome
structure jHi (st : Ts) : Prop where
 rise : jCl st.l
 eight : 8 ≤ st.buckets
 room : st.l.length + st.left ≤ 2 * st.buckets
structure jCj (st : Ts) (n : Nat) : Prop where
 len : st.l.length ≤ n
 buckets : st.buckets ≤ 8 + 2 * n
def jJm : Option Int → Value
 | some x => .pointer (some ⟨x.toNat,0,none⟩)
 | none => .pointer none
def jWi (p : Kv) : Array Value:=#[.string p.1,.pointer (some ⟨Int.toNat p.2,0,none⟩)]
structure jX5 (Tb : World → Nat → (Nat → Prop) → Ts → Prop) : Prop where
 lt : ∀ {w b own st},Tb w b own st → ∀ k,own k → k < w.heap.size
 good : ∀ {w b own st},Tb w b own st → jHi st
 keep : ∀ {w w' b own st},Tb w b own st → jMh own w w' → Tb w' b own st
 new : ∀ (sd : Nat),sd < 18446744073709551616 → ∀ w : World,Calls Tryz.prog 22 #[.int .u64 sd] w fun e w' => ∃ b own,e = .returned (.pointer (some ⟨b,0,none⟩)) ∧ (∀ k,own k → w.heap.size ≤ k) ∧ Tb w' b own jL8 ∧ w.grownBy w' none
 put : ∀ {w b own st},Tb w b own st → jCj st 5000 → ∀ s : ByteArray,s.size ≤ 140737488351232 → ∀ v : Int,0 ≤ v → Calls Tryz.prog 196 #[.pointer (some ⟨b,0,none⟩),.string s,.pointer (some ⟨Int.toNat v,0,none⟩)] w fun e w' => (∃ x,e = .returned x) ∧ ∃ own',Tb w' b own' (putT st s v) ∧ Gr own w w' ∧ jBm w own own'
 get : ∀ {w b own st},Tb w b own st → jCj st 5000 → ∀ s : ByteArray,s.size ≤ 140737488351232 → Calls Tryz.prog 86 #[.pointer (some ⟨b,0,none⟩),.string s] w fun e w' => e = .returned (.tuple #[jJm (jEh s st.l),.bool (jE3 st s)]) ∧ ∃ own',Tb w' b own' (jEc st) ∧ Gr own w w' ∧ jBm w own own'
 delete : ∀ {w b own st},Tb w b own st → jCj st 5000 → ∀ s : ByteArray,s.size ≤ 140737488351232 → Calls Tryz.prog 140 #[.pointer (some ⟨b,0,none⟩),.string s] w fun e w' => e = .returned (.bool (jE3 st s)) ∧ ∃ own',Tb w' b own' (delT st s) ∧ Gr own w w' ∧ jBm w own own'
 len : ∀ {w b own st},Tb w b own st → jCj st 5000 → Calls Tryz.prog 114 #[.pointer (some ⟨b,0,none⟩)] w fun e w' => e = .returned (.int .i64 st.l.length) ∧ Tb w' b own st ∧ w.grownBy w' none
 all : ∀ {w b own st},Tb w b own st → jCj st 5000 → Calls Tryz.prog 82 #[.pointer (some ⟨b,0,none⟩)] w fun e w' => ∃ g lb own2,e = .returned (.func (.func g) #[] lb) ∧ Tb w' b own st ∧ w.grownBy w' none ∧ (∀ k,own k → own2 k) ∧ (∀ k,own2 k → own k ∨ (w.heap.size ≤ k ∧ k < w'.heap.size)) ∧
  (∀ args v,(callFunc g args).run Tryz.prog v = .ok (.enter g args) v) ∧ ∀ n,5 ≤ n → jHd Fence.wide n Tryz.prog g lb jWi (fun _ => jAd.emp) own2 (fun xs => xs = st.l) (fun pre => pre <+: st.l) w'
theorem jR5 (k : ByteArray) (v : Int) : ∀ l : List Kv,(jEs k v l).length ≤ l.length + 1
 | [] => by simp [jEs]
 | (a,x) :: l => by
  unfold jEs
  split
  ·simp
  ·split
   ·simp
   ·have:=jR5 k v l
    simp
    omega
theorem jX7 (k : ByteArray) (l : List Kv) : (jG0 k l).length ≤ l.length:=List.length_filter_le _ _
theorem jZ0 : jHi jL8:=⟨List.Pairwise.nil,by decide,by decide⟩
theorem kK6 {st : Ts} (h : jHi st) (k : ByteArray) (v : Int) : jHi (putT st k v):=by
 have h1:=jR5 k v st.l
 have h2:=h.room
 have h3:=h.eight
 unfold putT jFn
 split
 ·rename_i hc
  exact ⟨jH3 h.rise,by show 8 ≤ 2 * st.buckets;omega,by show (jEs k v st.l).length + st.buckets ≤ 2 * (2 * st.buckets);omega⟩
 ·rename_i hc
  refine ⟨jH3 h.rise,h3,?_⟩
  show (jEs k v st.l).length + (st.left - 1) ≤ 2 * st.buckets
  simp at hc
  omega
theorem jPl {st : Ts} (h : jHi st) : jHi (jEc st):=⟨h.rise,h.eight,by have:=h.room;show st.l.length + (st.left - 1) ≤ 2 * st.buckets;omega⟩
theorem kLo {st : Ts} (h : jHi st) (k : ByteArray) : jHi (delT st k):=⟨kDk h.rise,h.eight,by have:=h.room;have:=jX7 k st.l;show (jG0 k st.l).length + (st.left - 1) ≤ 2 * st.buckets;omega⟩
theorem jQv {st : Ts} {m n : Nat} (h : jCj st m) (hm : m ≤ n) : jCj st n:=⟨Nat.le_trans h.len hm,by have:=h.buckets;omega⟩
theorem jX3 : jCj jL8 0:=⟨by decide,by decide⟩
theorem jZ1 {st : Ts} {n : Nat} (h : jCj st n) (k : ByteArray) (v : Int) (hl : (jEs k v st.l).length ≤ n) : jCj (putT st k v) n:=by
 have h3:=h.buckets
 unfold putT jFn
 split
 ·rename_i hc
  exact ⟨hl,by have:=hc.1;show 2 * st.buckets ≤ 8 + 2 * n;simp at this;omega⟩
 ·exact ⟨hl,h3⟩
theorem jDa {st : Ts} {n : Nat} (h : jCj st n) : jCj (jEc st) n:=⟨h.len,h.buckets⟩
theorem kEg {st : Ts} {n : Nat} (h : jCj st n) (k : ByteArray) : jCj (delT st k) n:=⟨Nat.le_trans (jX7 k st.l) h.len,h.buckets⟩
theorem putT_l (st : Ts) (k : ByteArray) (v : Int) : (putT st k v).l = jEs k v st.l:=by
 unfold putT jFn
 split <;> rfl
end
section
open Go.RowKit
structure kA1 : Prop where
 size : ∀ (i : It) (w : World),i.key.size ≤ 140737488355328 → i.vl ≤ 140737488355328 → Calls Tryz.prog 163 #[.agg (itC i)] w fun e w' => e = .returned (.int .i64 (50 + (i.key.size : Nat) + (i.vl : Nat))) ∧ Gd w w'
 atw : ∀ (exp now : Int) (w : World),Calls Tryz.prog 96 #[.int .i64 exp,.int .i64 now] w fun e w' => e = .returned (.int .i64 (atW exp now)) ∧ Gd w w'
 at_ : ∀ (exp now : Int),T40 exp → N41 now → ∀ w : World,Calls Tryz.prog 96 #[.int .i64 exp,.int .i64 now] w fun e w' => e = .returned (.int .i64 (atN exp now)) ∧ Gd w w'
 ttl : ∀ (i : It) (now : Int),i.ok → I64 now → ∀ w : World,Calls Tryz.prog 99 #[.agg (itC i),.int .i64 now] w fun e w' => e = .returned (.int .i64 (jCv i.exp now)) ∧ Gd w w'
 live : ∀ (i : It) (e : En),i.ok → e.ok → ∀ w : World,Calls Tryz.prog 87 #[.agg (itC i),.agg (enC e)] w fun x w' => x = .returned (.bool (jDd i.exp i.sec i.seq e)) ∧ Gd w w'
end
end Go.Proofs.YtkfeafmpaodagaaGreatDoor
