/- Items and envs as values, and what is said of them: nothing of the program is run here. Conditions: none. An item and an env in boxes of a statement's own. Conditions: none. -/
import Derived.Test.YtkfeafmpaodagaaGreatDoorG00Joined
import Derived.Test.YtkfeafmpaodagaaGreatDoorG02Joined
import Derived.Sort.Grow
namespace Go.Proofs.YtkfeafmpaodagaaGreatDoor
open Go.RowKit Go.Sort

structure It where
  key : ByteArray
  va : Option Addr
  vl : Nat
  vc : Nat
  fl : Int
  exp : Int
  cas : Int
  sec : Int
  seq : Int
  st : Bool
  won : Bool
  seen : Bool
structure En where
  now : Int
  seq : Int
  flush : Int
  fseq : Int
def itC (i : It) : Array Value := #[.string i.key, .slice i.va i.vl i.vc, .int .u32 i.fl, .int .i64 i.exp, .int .u64 i.cas, .int .i64 i.sec, .int .u64 i.seq, .bool i.st, .bool i.won, .bool i.seen]
def enC (e : En) : Array Value := #[.int .i64 e.now, .int .u64 e.seq, .int .i64 e.flush, .int .u64 e.fseq]
def U64 (a : Int) : Prop := 0 ≤ a ∧ a < 18446744073709551616
structure It.ok (i : It) : Prop where
  key : i.key.size ≤ maxLen
  vl : i.vl ≤ maxLen
  exp : I64 i.exp
  sec : I64 i.sec
  seq : U64 i.seq
structure En.ok (e : En) : Prop where
  now : I64 e.now
  seq : U64 e.seq
  flush : I64 e.flush
  fseq : U64 e.fseq
/-- The document's words. -/
def atN (exp now : Int) : Int := if exp = 0 then 0 else if exp < 0 then max now 1 else if exp ≤ 2592000 then max now 1 + exp else exp
/-- The same at any second, round at 64 bits. -/
def atW (exp now : Int) : Int := if exp = 0 then 0 else if exp < 0 then max now 1 else if exp ≤ 2592000 then wrap64 (max now 1 + exp) else exp
def ttlN (exp now : Int) : Int := if exp = 0 then -1 else if exp ≤ now then 0 else wrap64 (exp - now)
/-- Was it stored ahead of a second, and of a command of it? -/
abbrev elderN (sec seq s q : Int) : Prop := sec < s ∨ (sec = s ∧ seq < q)
def liveN (exp sec seq : Int) (e : En) : Bool := if exp ≠ 0 ∧ exp ≤ e.now then false else if e.flush = 0 ∨ e.now < e.flush then true else !decide (elderN sec seq e.flush e.fseq)
def flushN (exp : Int) (e : En) : En := if 0 < exp then ⟨e.now, e.seq, atN exp e.now, 0⟩ else ⟨e.now, e.seq, max e.now 1, e.seq⟩
def T40 (a : Int) : Prop := -1099511627776 ≤ a ∧ a ≤ 1099511627776
def N41 (a : Int) : Prop := -1 ≤ a ∧ a ≤ 2199023255552
/-- The world goes on: draws, and new blocks. -/
def Gd (w w' : World) : Prop := ∃ q os, w' = grow (w.drewN q) os
theorem Gd.refl (w : World) : Gd w w := ⟨0, #[], by rw [grow_empty]; rfl⟩
theorem Gd.drewN (w : World) (n : Nat) : Gd w (w.drewN n) := ⟨n, #[], by rw [grow_empty]⟩
theorem Gd.alloc (w : World) (o : Obj) : Gd w (w.alloc o) := ⟨0, #[o], by rw [alloc_eq_grow]; rfl⟩
theorem grow_drewN (w : World) (os : Array Obj) (n : Nat) : (grow w os).drewN n = grow (w.drewN n) os := rfl
theorem Gd.trans {a b c : World} (h : Gd a b) (k : Gd b c) : Gd a c := by
  obtain ⟨q, os, rfl⟩ := h
  obtain ⟨q', os', rfl⟩ := k
  exact ⟨q + q', os ++ os', by rw [grow_drewN, grow_grow, World.drewN_drewN]⟩
theorem Gd.grown {w w' : World} (h : Gd w w') : w.grownBy w' none := by
  obtain ⟨q, os, rfl⟩ := h
  refine ⟨rfl, rfl, rfl, ?_, fun k hk _ => ?_⟩
  · show w.heap.size ≤ (w.heap ++ os).size
    rw [Array.size_append]
    omega
  · show (w.heap ++ os)[k]? = w.heap[k]?
    exact Array.getElem?_append_left hk
theorem Gd.below {w w' : World} (h : Gd w w') : Below w.heap.size w w' := below_gr h.grown
theorem heap_grown0 {w w' : World} {k : Nat} {o : Obj} (hg : w.grownBy w' none) (h : w.heap[k]? = some o) : w'.heap[k]? = some o := (hg.block k (Array.getElem?_eq_some_iff.1 h).1 (by simp)).trans h
/-- An item's cells, an env's. -/
theorem it_cells {w : World} {k : Nat} {t : TypeId} {i : It} (h : w.heap[k]? = some (.cells (itC i) t (0, 0))) :
    w.cell? ⟨k, 0, none⟩ = some (.string i.key) ∧ w.cell? ⟨k, 1, none⟩ = some (.slice i.va i.vl i.vc) ∧ w.cell? ⟨k, 2, none⟩ = some (.int .u32 i.fl) ∧ w.cell? ⟨k, 3, none⟩ = some (.int .i64 i.exp) ∧ w.cell? ⟨k, 4, none⟩ = some (.int .u64 i.cas) ∧
    w.cell? ⟨k, 5, none⟩ = some (.int .i64 i.sec) ∧ w.cell? ⟨k, 6, none⟩ = some (.int .u64 i.seq) ∧ w.cell? ⟨k, 7, none⟩ = some (.bool i.st) ∧ w.cell? ⟨k, 8, none⟩ = some (.bool i.won) ∧ w.cell? ⟨k, 9, none⟩ = some (.bool i.seen) := by
  simp [World.cell?, h, itC]
theorem en_cells {w : World} {k : Nat} {t : TypeId} {e : En} (h : w.heap[k]? = some (.cells (enC e) t (0, 0))) : w.cell? ⟨k, 0, none⟩ = some (.int .i64 e.now) ∧ w.cell? ⟨k, 1, none⟩ = some (.int .u64 e.seq) ∧ w.cell? ⟨k, 2, none⟩ = some (.int .i64 e.flush) ∧ w.cell? ⟨k, 3, none⟩ = some (.int .u64 e.fseq) := by
  simp [World.cell?, h, enC]
theorem heap_grow {w : World} {k : Nat} {o : Obj} (h : w.heap[k]? = some o) (n : Nat) (os : Array Obj) : (grow (w.drewN n) os).heap[k]? = some o := heap_grown0 (Gd.grown ⟨n, os, rfl⟩) h
/-- In every world that goes on from it. -/
theorem it_cellsG {w : World} {k : Nat} {t : TypeId} {i : It} (h : w.heap[k]? = some (.cells (itC i) t (0, 0))) :
    (∀ n os, (grow (w.drewN n) os).cell? ⟨k, 0, none⟩ = some (.string i.key)) ∧ (∀ n os, (grow (w.drewN n) os).cell? ⟨k, 1, none⟩ = some (.slice i.va i.vl i.vc)) ∧ (∀ n os, (grow (w.drewN n) os).cell? ⟨k, 2, none⟩ = some (.int .u32 i.fl)) ∧ (∀ n os, (grow (w.drewN n) os).cell? ⟨k, 3, none⟩ = some (.int .i64 i.exp)) ∧
    (∀ n os, (grow (w.drewN n) os).cell? ⟨k, 4, none⟩ = some (.int .u64 i.cas)) ∧ (∀ n os, (grow (w.drewN n) os).cell? ⟨k, 5, none⟩ = some (.int .i64 i.sec)) ∧ (∀ n os, (grow (w.drewN n) os).cell? ⟨k, 6, none⟩ = some (.int .u64 i.seq)) ∧ (∀ n os, (grow (w.drewN n) os).cell? ⟨k, 7, none⟩ = some (.bool i.st)) ∧
    (∀ n os, (grow (w.drewN n) os).cell? ⟨k, 8, none⟩ = some (.bool i.won)) ∧ (∀ n os, (grow (w.drewN n) os).cell? ⟨k, 9, none⟩ = some (.bool i.seen)) := by
  have h' := fun n os => it_cells (heap_grow h n os)
  exact ⟨fun n os => (h' n os).1, fun n os => (h' n os).2.1, fun n os => (h' n os).2.2.1, fun n os => (h' n os).2.2.2.1, fun n os => (h' n os).2.2.2.2.1, fun n os => (h' n os).2.2.2.2.2.1, fun n os => (h' n os).2.2.2.2.2.2.1, fun n os => (h' n os).2.2.2.2.2.2.2.1, fun n os => (h' n os).2.2.2.2.2.2.2.2.1, fun n os => (h' n os).2.2.2.2.2.2.2.2.2⟩
theorem en_cellsG {w : World} {k : Nat} {t : TypeId} {e : En} (h : w.heap[k]? = some (.cells (enC e) t (0, 0))) : (∀ n os, (grow (w.drewN n) os).cell? ⟨k, 0, none⟩ = some (.int .i64 e.now)) ∧ (∀ n os, (grow (w.drewN n) os).cell? ⟨k, 1, none⟩ = some (.int .u64 e.seq)) ∧ (∀ n os, (grow (w.drewN n) os).cell? ⟨k, 2, none⟩ = some (.int .i64 e.flush)) ∧ (∀ n os, (grow (w.drewN n) os).cell? ⟨k, 3, none⟩ = some (.int .u64 e.fseq)) := by
  have h' := fun n os => en_cells (heap_grow h n os)
  exact ⟨fun n os => (h' n os).1, fun n os => (h' n os).2.1, fun n os => (h' n os).2.2.1, fun n os => (h' n os).2.2.2⟩
end Go.Proofs.YtkfeafmpaodagaaGreatDoor

namespace Go.Proofs.YtkfeafmpaodagaaGreatDoor
open Go.RowKit Go.Sort

abbrev ItB (k : Nat) (i : It) : Part := boxP k (.cells (itC i) 75)
abbrev EnB (k : Nat) (e : En) : Part := boxP k (.cells (enC e) 35)
abbrev Own0 : Nat → Prop := fun _ => False
theorem own0_below {w W : World} {A : Part} (H : LawF Own0 w W A) : RowKit.Below w.heap.size w W := below_gr (H.gr.to fun _ h => h.elim)
theorem two_boxes (w : World) (i : It) (e : En) : LawF Own0 w ((w.alloc (.cells (itC i) 75)).alloc (.cells (enC e) 35)) ((EnB (w.heap.size + 1) e).and ((ItB w.heap.size i).and Part.emp)) := by
  have h := ((LawF.bare w).box (.cells (itC i) 75)).box (.cells (enC e) 35)
  rwa [World.size_alloc] at h
theorem it_exp (i : It) (x : Int) : (itC i).setIfInBounds 3 (.int .i64 x) = itC { i with exp := x } := by simp [itC]
/-- The item's end is stored anew. -/
theorem set_exp {F : Nat → Prop} {w0 w : World} {k : Nat} {i : It} {R : Part} (H : LawF F w0 w ((ItB k i).and R)) (x : Int) : LawF F w0 (w.setCell ⟨k, 3, none⟩ (.int .i64 x)) ((ItB k { i with exp := x }).and R) := by
  have h := H.setAt 3 (.int .i64 x)
  rwa [it_exp] at h
end Go.Proofs.YtkfeafmpaodagaaGreatDoor
