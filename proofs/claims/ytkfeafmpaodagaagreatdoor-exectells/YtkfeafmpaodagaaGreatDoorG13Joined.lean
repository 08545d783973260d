/- The contracts of package slab, over a word 'Sl' that says what a slab in memory has. Nothing of the program is walked here. Conditions: none. The contracts of package slru, over a word 'Ls' that says what a list in memory has. Nothing of the program is walked here. Conditions: none. The contracts of package tiny, over a word 'Jd' that says what a judge in memory has seen. Nothing of the program is walked here. Conditions: none. The contracts of package table, for numbers, over a word 'Tb' that says what a table in memory has. Nothing of the program is walked here. Conditions: none. The contracts of package item. Nothing of the program is walked here. Conditions: none. -/
import Derived.Test.YtkfeafmpaodagaaGreatDoorG00Joined
import Derived.Test.YtkfeafmpaodagaaGreatDoorG03Joined
import Derived.Test.YtkfeafmpaodagaaGreatDoorG02Joined
import Derived.Test.YtkfeafmpaodagaaGreatDoorG01Joined
import Derived.Test.YtkfeafmpaodagaaGreatDoorG04Joined
namespace Go.Proofs.YtkfeafmpaodagaaGreatDoor
open Go.RowKit

/-- A chunk as a value. -/
def ckV (c : Ck) : Value := .agg #[.int .i64 c.1, .int .i64 c.2]
def CkOk (c : Ck) : Prop := I64 c.1 ∧ I64 c.2
/-- The contracts of package slab: a slab at block b owns some blocks. -/
structure SlabLib (Sl : World → Nat → (Nat → Prop) → Sb → Prop) : Prop where
  lt : ∀ {w b own st}, Sl w b own st → ∀ k, own k → k < w.heap.size
  good : ∀ {w b own st}, Sl w b own st → GoodS st ∧ I64 st.bud
  keep : ∀ {w w' b own st}, Sl w b own st → (∀ k, own k → w'.heap[k]? = w.heap[k]?) → Sl w' b own st
  new : ∀ (bud : Int), I64 bud → ∀ w : World, Calls Tryz.prog 23 #[.int .i64 bud] w fun e w' => ∃ b own, e = .returned (.pointer (some ⟨b, 0, none⟩)) ∧ (∀ k, own k → w.heap.size ≤ k) ∧ Sl w' b own (freshS bud) ∧ w.grownBy w' none
  cls : ∀ (size : Int), I64 size → ∀ w : World, Calls Tryz.prog 162 #[.int .i64 size] w fun e w' => e = .returned (.tuple #[.int .i64 (clsOf size), .int .i64 (clsErr size)]) ∧ w.grownBy w' none
  bytes : ∀ (k : Int), I64 k → ∀ w : World, Calls Tryz.prog 171 #[.int .i64 k] w fun e w' => e = .returned (.int .i64 (bytesC k)) ∧ w.grownBy w' none
  take : ∀ {w b own st}, Sl w b own st → Small st 10000 → ∀ size : Int, I64 size → Calls Tryz.prog 195 #[.pointer (some ⟨b, 0, none⟩), .int .i64 size] w fun e w' => e = .returned (.tuple #[ckV (takeCk st size), .int .i64 (takeErr st size)]) ∧ ∃ own', Sl w' b own' (takeS st size) ∧ Gr own w w' ∧ Grew w own own'
  free : ∀ {w b own st}, Sl w b own st → Small st 10000 → ∀ c : Ck, CkOk c → Calls Tryz.prog 141 #[.pointer (some ⟨b, 0, none⟩), ckV c] w fun e w' => e = .returned (.int .i64 (freeErr st c)) ∧ ∃ own', Sl w' b own' (freeS st c) ∧ Gr own w w' ∧ Grew w own own'
  has : ∀ {w b own st}, Sl w b own st → Small st 10000 → ∀ c : Ck, CkOk c → Calls Tryz.prog 170 #[.pointer (some ⟨b, 0, none⟩), ckV c] w fun e w' => e = .returned (.bool (decide (c ∈ st.inn))) ∧ Sl w' b own st ∧ w.grownBy w' none
  used : ∀ {w b own st}, Sl w b own st → Small st 10000 → Calls Tryz.prog 84 #[.pointer (some ⟨b, 0, none⟩)] w fun e w' => e = .returned (.int .i64 (usedS st)) ∧ Sl w' b own st ∧ w.grownBy w' none
  fits : ∀ {w b own st}, Sl w b own st → Small st 10000 → ∀ size less : Int, I64 size → I64 less → Calls Tryz.prog 192 #[.pointer (some ⟨b, 0, none⟩), .int .i64 size, .int .i64 less] w fun e w' => e = .returned (.bool (fitsS st size less)) ∧ Sl w' b own st ∧ w.grownBy w' none
variable {Sl : World → Nat → (Nat → Prop) → Sb → Prop}
theorem SlabLib.kept (L : SlabLib Sl) {w w' : World} {b : Nat} {own : Nat → Prop} {st : Sb} (h : Sl w b own st) (hg : w.grownBy w' none) : Sl w' b own st := L.keep h fun k hk => hg.block k (L.lt h k hk) (by simp)
theorem SlabLib.apart (L : SlabLib Sl) {w w' : World} {b : Nat} {own F : Nat → Prop} {st : Sb} (h : Sl w b own st) (hg : Gr F w w') (hc : ∀ k, own k → ¬ F k) : Sl w' b own st := L.keep h fun k hk => hg.block k (L.lt h k hk) (hc k hk)
end Go.Proofs.YtkfeafmpaodagaaGreatDoor

namespace Go.Proofs.YtkfeafmpaodagaaGreatDoor
open Go.RowKit Go.Shelf

def keyEnc (s : ByteArray) : Array Value := #[.string s]
/-- The contracts of package slru: a list at block b owns some blocks. -/
structure SlruLib (Ls : World → Nat → (Nat → Prop) → Sr → Prop) : Prop where
  lt : ∀ {w b own st}, Ls w b own st → ∀ k, own k → k < w.heap.size
  good : ∀ {w b own st}, Ls w b own st → GoodR st
  keep : ∀ {w w' b own st}, Ls w b own st → SameOn own w w' → Ls w' b own st
  new : ∀ (most : Int), I64 most → ∀ w : World, Calls Tryz.prog 24 #[.int .i64 most] w fun e w' => ∃ b own, e = .returned (.pointer (some ⟨b, 0, none⟩)) ∧ (∀ k, own k → w.heap.size ≤ k) ∧ Ls w' b own (freshR most) ∧ w.grownBy w' none
  add : ∀ {w b own st}, Ls w b own st → (allR st).length < maxLen → ∀ s : ByteArray, s.size ≤ maxLen → Calls Tryz.prog 194 #[.pointer (some ⟨b, 0, none⟩), .string s] w fun e w' => e = .returned (.int .i64 (addErr st s)) ∧ ∃ own', Ls w' b own' (addR st s) ∧ Gr own w w' ∧ Grew w own own'
  hit : ∀ {w b own st}, Ls w b own st → (allR st).length ≤ maxLen → ∀ s : ByteArray, s.size ≤ maxLen → Calls Tryz.prog 56 #[.pointer (some ⟨b, 0, none⟩), .string s] w fun e w' => e = .returned (.int .i64 (remErr st s)) ∧ ∃ own', Ls w' b own' (hitR st s) ∧ Gr own w w' ∧ Grew w own own'
  remove : ∀ {w b own st}, Ls w b own st → (allR st).length ≤ maxLen → ∀ s : ByteArray, s.size ≤ maxLen → Calls Tryz.prog 142 #[.pointer (some ⟨b, 0, none⟩), .string s] w fun e w' => e = .returned (.int .i64 (remErr st s)) ∧ ∃ own', Ls w' b own' (remR st s) ∧ Gr own w w' ∧ Grew w own own'
  victim : ∀ {w b own st}, Ls w b own st → (allR st).length ≤ maxLen → ∀ s : ByteArray, s.size ≤ maxLen → Calls Tryz.prog 191 #[.pointer (some ⟨b, 0, none⟩), .string s] w fun e w' => e = .returned (.tuple #[.string ((vicR st s).getD ⟨#[]⟩), .bool (vicR st s).isSome]) ∧ Ls w' b own st ∧ w.grownBy w' none
end Go.Proofs.YtkfeafmpaodagaaGreatDoor

namespace Go.Proofs.YtkfeafmpaodagaaGreatDoor
open Go.RowKit

/-- The contracts of package tiny: a judge at block b owns the blocks bs. -/
structure TinyLib (Jd : World → Nat → List Nat → Nat → Js → Prop) : Prop where
  lt : ∀ {w b bs sd j}, Jd w b bs sd j → ∀ k ∈ bs, k < w.heap.size
  good : ∀ {w b bs sd j}, Jd w b bs sd j → GoodJ j ∧ sd < 18446744073709551616
  keep : ∀ {w w' b bs sd j}, Jd w b bs sd j → (∀ k ∈ bs, w'.heap[k]? = w.heap[k]?) → Jd w' b bs sd j
  new : ∀ (sd : Nat), sd < 18446744073709551616 → ∀ w : World, Calls Tryz.prog 25 #[.int .u64 sd] w fun e w' => ∃ b bs, e = .returned (.pointer (some ⟨b, 0, none⟩)) ∧ (∀ k ∈ bs, w.heap.size ≤ k) ∧ Jd w' b bs sd freshJ ∧ w.grownBy w' none
  touch : ∀ {w b bs sd j}, Jd w b bs sd j → ∀ s : ByteArray, s.size ≤ 140737488351232 → Calls Tryz.prog 55 #[.pointer (some ⟨b, 0, none⟩), .string s] w fun e w' => (∃ v, e = .returned v) ∧ Jd w' b bs sd (touchJ sd j s.data.toList) ∧ Gr (· ∈ bs) w w'
  worth : ∀ {w b bs sd j}, Jd w b bs sd j → ∀ s : ByteArray, s.size ≤ 140737488351232 → Calls Tryz.prog 212 #[.pointer (some ⟨b, 0, none⟩), .string s] w fun e w' => e = .returned (.int .i64 (worthJ sd j s.data.toList)) ∧ Jd w' b bs sd j ∧ w.grownBy w' none
  admits : ∀ {w b bs sd j}, Jd w b bs sd j → ∀ s t : ByteArray, s.size ≤ 140737488351232 → t.size ≤ 140737488351232 → Calls Tryz.prog 193 #[.pointer (some ⟨b, 0, none⟩), .string s, .string t] w fun e w' => e = .returned (.bool (decide (worthJ sd j t.data.toList < worthJ sd j s.data.toList))) ∧ Jd w' b bs sd j ∧ w.grownBy w' none

variable {Jd : World → Nat → List Nat → Nat → Js → Prop}
theorem TinyLib.kept (L : TinyLib Jd) {w w' : World} {b sd : Nat} {bs : List Nat} {j : Js} (h : Jd w b bs sd j) (hg : w.grownBy w' none) : Jd w' b bs sd j := L.keep h fun k hk => hg.block k (L.lt h k hk) (by simp)
/-- What another judge, made later, writes is none of its own. -/
theorem TinyLib.apart (L : TinyLib Jd) {w w' : World} {b sd : Nat} {bs cs : List Nat} {j : Js} (h : Jd w b bs sd j) (hg : Gr (· ∈ cs) w w') (hc : ∀ k ∈ bs, ¬ k ∈ cs) : Jd w' b bs sd j := L.keep h fun k hk => hg.block k (L.lt h k hk) (hc k hk)
end Go.Proofs.YtkfeafmpaodagaaGreatDoor

namespace Go.Proofs.YtkfeafmpaodagaaGreatDoor
open Go.RowKit Go.Shelf

/-- Pairs by rising texts; how many buckets; how many are left. -/
structure Ts where
  l : List Kv
  buckets : Nat
  left : Nat
def freshT : Ts := ⟨[], 8, 0⟩
def stepT (st : Ts) : Ts := ⟨st.l, st.buckets, st.left - 1⟩
def growT (st : Ts) : Ts := if 2 * st.buckets < st.l.length ∧ st.left = 0 then ⟨st.l, 2 * st.buckets, st.buckets⟩ else st
def putT (st : Ts) (k : ByteArray) (v : Int) : Ts := growT ⟨putL k v st.l, st.buckets, st.left - 1⟩
def delT (st : Ts) (k : ByteArray) : Ts := ⟨delL k st.l, st.buckets, st.left - 1⟩
def hasT (st : Ts) (k : ByteArray) : Bool := (getL k st.l).isSome
structure GoodT (st : Ts) : Prop where
  rise : Rising st.l
  eight : 8 ≤ st.buckets
  room : st.l.length + st.left ≤ 2 * st.buckets
structure SmallT (st : Ts) (n : Nat) : Prop where
  len : st.l.length ≤ n
  buckets : st.buckets ≤ 8 + 2 * n
/-- A pointer to the block of a number, or to none. -/
def ptrO : Option Int → Value
  | some x => .pointer (some ⟨x.toNat, 0, none⟩)
  | none => .pointer none
def kvEnc (p : Kv) : Array Value := #[.string p.1, .pointer (some ⟨Int.toNat p.2, 0, none⟩)]
/-- The contracts of package table, its texts having numbers: a table at block b owns some blocks. -/
structure TableLib (Tb : World → Nat → (Nat → Prop) → Ts → Prop) : Prop where
  lt : ∀ {w b own st}, Tb w b own st → ∀ k, own k → k < w.heap.size
  good : ∀ {w b own st}, Tb w b own st → GoodT st
  keep : ∀ {w w' b own st}, Tb w b own st → SameOn own w w' → Tb w' b own st
  new : ∀ (sd : Nat), sd < 18446744073709551616 → ∀ w : World, Calls Tryz.prog 22 #[.int .u64 sd] w fun e w' => ∃ b own, e = .returned (.pointer (some ⟨b, 0, none⟩)) ∧ (∀ k, own k → w.heap.size ≤ k) ∧ Tb w' b own freshT ∧ w.grownBy w' none
  put : ∀ {w b own st}, Tb w b own st → SmallT st 5000 → ∀ s : ByteArray, s.size ≤ 140737488351232 → ∀ v : Int, 0 ≤ v → Calls Tryz.prog 196 #[.pointer (some ⟨b, 0, none⟩), .string s, .pointer (some ⟨Int.toNat v, 0, none⟩)] w fun e w' => (∃ x, e = .returned x) ∧ ∃ own', Tb w' b own' (putT st s v) ∧ Gr own w w' ∧ Grew w own own'
  get : ∀ {w b own st}, Tb w b own st → SmallT st 5000 → ∀ s : ByteArray, s.size ≤ 140737488351232 → Calls Tryz.prog 86 #[.pointer (some ⟨b, 0, none⟩), .string s] w fun e w' => e = .returned (.tuple #[ptrO (getL s st.l), .bool (hasT st s)]) ∧ ∃ own', Tb w' b own' (stepT st) ∧ Gr own w w' ∧ Grew w own own'
  delete : ∀ {w b own st}, Tb w b own st → SmallT st 5000 → ∀ s : ByteArray, s.size ≤ 140737488351232 → Calls Tryz.prog 140 #[.pointer (some ⟨b, 0, none⟩), .string s] w fun e w' => e = .returned (.bool (hasT st s)) ∧ ∃ own', Tb w' b own' (delT st s) ∧ Gr own w w' ∧ Grew w own own'
  len : ∀ {w b own st}, Tb w b own st → SmallT st 5000 → Calls Tryz.prog 114 #[.pointer (some ⟨b, 0, none⟩)] w fun e w' => e = .returned (.int .i64 st.l.length) ∧ Tb w' b own st ∧ w.grownBy w' none
  all : ∀ {w b own st}, Tb w b own st → SmallT st 5000 → Calls Tryz.prog 82 #[.pointer (some ⟨b, 0, none⟩)] w fun e w' => ∃ g lb own2, e = .returned (.func (.func g) #[] lb) ∧ Tb w' b own st ∧ w.grownBy w' none ∧ (∀ k, own k → own2 k) ∧ (∀ k, own2 k → own k ∨ (w.heap.size ≤ k ∧ k < w'.heap.size)) ∧
    (∀ args v, (callFunc g args).run Tryz.prog v = .ok (.enter g args) v) ∧ ∀ n, 5 ≤ n → SeqGive Fence.wide n Tryz.prog g lb kvEnc (fun _ => Part.emp) own2 (fun xs => xs = st.l) (fun pre => pre <+: st.l) w'
theorem len_putL (k : ByteArray) (v : Int) : ∀ l : List Kv, (putL k v l).length ≤ l.length + 1
  | [] => by simp [putL]
  | (a, x) :: l => by
    unfold putL
    split
    · simp
    · split
      · simp
      · have := len_putL k v l
        simp
        omega
theorem len_delL (k : ByteArray) (l : List Kv) : (delL k l).length ≤ l.length := List.length_filter_le _ _
theorem good_freshT : GoodT freshT := ⟨List.Pairwise.nil, by decide, by decide⟩
theorem good_put {st : Ts} (h : GoodT st) (k : ByteArray) (v : Int) : GoodT (putT st k v) := by
  have h1 := len_putL k v st.l
  have h2 := h.room
  have h3 := h.eight
  unfold putT growT
  split
  · rename_i hc
    exact ⟨rising_put h.rise, by show 8 ≤ 2 * st.buckets; omega, by show (putL k v st.l).length + st.buckets ≤ 2 * (2 * st.buckets); omega⟩
  · rename_i hc
    refine ⟨rising_put h.rise, h3, ?_⟩
    show (putL k v st.l).length + (st.left - 1) ≤ 2 * st.buckets
    simp at hc
    omega
theorem good_step {st : Ts} (h : GoodT st) : GoodT (stepT st) := ⟨h.rise, h.eight, by have := h.room; show st.l.length + (st.left - 1) ≤ 2 * st.buckets; omega⟩
theorem good_del {st : Ts} (h : GoodT st) (k : ByteArray) : GoodT (delT st k) := ⟨rising_del h.rise, h.eight, by have := h.room; have := len_delL k st.l; show (delL k st.l).length + (st.left - 1) ≤ 2 * st.buckets; omega⟩
theorem smallT_mono {st : Ts} {m n : Nat} (h : SmallT st m) (hm : m ≤ n) : SmallT st n := ⟨Nat.le_trans h.len hm, by have := h.buckets; omega⟩
theorem smallT_fresh : SmallT freshT 0 := ⟨by decide, by decide⟩
theorem smallT_put {st : Ts} {n : Nat} (h : SmallT st n) (k : ByteArray) (v : Int) : SmallT (putT st k v) (n + 1) := by
  have h1 := len_putL k v st.l
  have h2 := h.len
  have h3 := h.buckets
  unfold putT growT
  split
  · rename_i hc
    exact ⟨by show (putL k v st.l).length ≤ n + 1; omega, by have := hc.1; show 2 * st.buckets ≤ 8 + 2 * (n + 1); simp at this; omega⟩
  · exact ⟨by show (putL k v st.l).length ≤ n + 1; omega, by show st.buckets ≤ 8 + 2 * (n + 1); omega⟩
theorem smallT_putN {st : Ts} {n : Nat} (h : SmallT st n) (k : ByteArray) (v : Int) (hl : (putL k v st.l).length ≤ n) : SmallT (putT st k v) n := by
  have h3 := h.buckets
  unfold putT growT
  split
  · rename_i hc
    exact ⟨hl, by have := hc.1; show 2 * st.buckets ≤ 8 + 2 * n; simp at this; omega⟩
  · exact ⟨hl, h3⟩
theorem smallT_step {st : Ts} {n : Nat} (h : SmallT st n) : SmallT (stepT st) n := ⟨h.len, h.buckets⟩
theorem smallT_del {st : Ts} {n : Nat} (h : SmallT st n) (k : ByteArray) : SmallT (delT st k) n := ⟨Nat.le_trans (len_delL k st.l) h.len, h.buckets⟩
theorem putT_l (st : Ts) (k : ByteArray) (v : Int) : (putT st k v).l = putL k v st.l := by
  unfold putT growT
  split <;> rfl
end Go.Proofs.YtkfeafmpaodagaaGreatDoor

namespace Go.Proofs.YtkfeafmpaodagaaGreatDoor
open Go.RowKit

structure ItemLib : Prop where
  size : ∀ (i : It) (w : World), i.key.size ≤ 140737488355328 → i.vl ≤ 140737488355328 → Calls Tryz.prog 163 #[.agg (itC i)] w fun e w' => e = .returned (.int .i64 (50 + (i.key.size : Nat) + (i.vl : Nat))) ∧ Gd w w'
  atw : ∀ (exp now : Int) (w : World), Calls Tryz.prog 96 #[.int .i64 exp, .int .i64 now] w fun e w' => e = .returned (.int .i64 (atW exp now)) ∧ Gd w w'
  at_ : ∀ (exp now : Int), T40 exp → N41 now → ∀ w : World, Calls Tryz.prog 96 #[.int .i64 exp, .int .i64 now] w fun e w' => e = .returned (.int .i64 (atN exp now)) ∧ Gd w w'
  ttl : ∀ (i : It) (now : Int), i.ok → I64 now → ∀ w : World, Calls Tryz.prog 99 #[.agg (itC i), .int .i64 now] w fun e w' => e = .returned (.int .i64 (ttlN i.exp now)) ∧ Gd w w'
  live : ∀ (i : It) (e : En), i.ok → e.ok → ∀ w : World, Calls Tryz.prog 87 #[.agg (itC i), .agg (enC e)] w fun x w' => x = .returned (.bool (liveN i.exp i.sec i.seq e)) ∧ Gd w w'
end Go.Proofs.YtkfeafmpaodagaaGreatDoor
