/- The contracts of package slab, over a word 'Sl' that says what a slab in memory has. Nothing of the program is walked here. Conditions: none. -/
import Derived.Test.YtdjagifmcimedaaGrow
import Derived.Test.YtdjagifmcimedaaSlabM
import Derived.Test.YtdjagifmcimedaaRowsOpen
namespace Go.Proofs.Ytdjagifmcimedaa
open Go.RowKit

/-- A chunk as a value. -/
def ckV (c : Ck) : Value := .agg #[.int .i64 c.1, .int .i64 c.2]
def CkOk (c : Ck) : Prop := I64 c.1 ∧ I64 c.2
/-- The contracts of package slab: a slab at block b owns some blocks. -/
structure SlabLib (Sl : World → Nat → (Nat → Prop) → Sb → Prop) : Prop where
  lt : ∀ {w b own st}, Sl w b own st → ∀ k, own k → k < w.heap.size
  good : ∀ {w b own st}, Sl w b own st → GoodS st ∧ I64 st.bud
  keep : ∀ {w w' b own st}, Sl w b own st → (∀ k, own k → w'.heap[k]? = w.heap[k]?) → Sl w' b own st
  new : ∀ (bud : Int), I64 bud → ∀ w : World, Calls Try.prog 13 #[.int .i64 bud] w fun e w' => ∃ b own, e = .returned (.pointer (some ⟨b, 0, none⟩)) ∧ (∀ k, own k → w.heap.size ≤ k) ∧ Sl w' b own (freshS bud) ∧ w.grownBy w' none
  cls : ∀ (size : Int), I64 size → ∀ w : World, Calls Try.prog 9 #[.int .i64 size] w fun e w' => e = .returned (.tuple #[.int .i64 (clsOf size), .int .i64 (clsErr size)]) ∧ w.grownBy w' none
  bytes : ∀ (k : Int), I64 k → ∀ w : World, Calls Try.prog 11 #[.int .i64 k] w fun e w' => e = .returned (.int .i64 (bytesC k)) ∧ w.grownBy w' none
  take : ∀ {w b own st}, Sl w b own st → Small st 10000 → ∀ size : Int, I64 size → Calls Try.prog 15 #[.pointer (some ⟨b, 0, none⟩), .int .i64 size] w fun e w' => e = .returned (.tuple #[ckV (takeCk st size), .int .i64 (takeErr st size)]) ∧ ∃ own', Sl w' b own' (takeS st size) ∧ Gr own w w' ∧ Grew w own own'
  free : ∀ {w b own st}, Sl w b own st → Small st 10000 → ∀ c : Ck, CkOk c → Calls Try.prog 17 #[.pointer (some ⟨b, 0, none⟩), ckV c] w fun e w' => e = .returned (.int .i64 (freeErr st c)) ∧ ∃ own', Sl w' b own' (freeS st c) ∧ Gr own w w' ∧ Grew w own own'
  has : ∀ {w b own st}, Sl w b own st → Small st 10000 → ∀ c : Ck, CkOk c → Calls Try.prog 19 #[.pointer (some ⟨b, 0, none⟩), ckV c] w fun e w' => e = .returned (.bool (decide (c ∈ st.inn))) ∧ Sl w' b own st ∧ w.grownBy w' none
  used : ∀ {w b own st}, Sl w b own st → Small st 10000 → Calls Try.prog 23 #[.pointer (some ⟨b, 0, none⟩)] w fun e w' => e = .returned (.int .i64 (usedS st)) ∧ Sl w' b own st ∧ w.grownBy w' none
  fits : ∀ {w b own st}, Sl w b own st → Small st 10000 → ∀ size less : Int, I64 size → I64 less → Calls Try.prog 21 #[.pointer (some ⟨b, 0, none⟩), .int .i64 size, .int .i64 less] w fun e w' => e = .returned (.bool (fitsS st size less)) ∧ Sl w' b own st ∧ w.grownBy w' none
variable {Sl : World → Nat → (Nat → Prop) → Sb → Prop}
theorem SlabLib.kept (L : SlabLib Sl) {w w' : World} {b : Nat} {own : Nat → Prop} {st : Sb} (h : Sl w b own st) (hg : w.grownBy w' none) : Sl w' b own st := L.keep h fun k hk => hg.block k (L.lt h k hk) (by simp)
theorem SlabLib.apart (L : SlabLib Sl) {w w' : World} {b : Nat} {own F : Nat → Prop} {st : Sb} (h : Sl w b own st) (hg : Gr F w w') (hc : ∀ k, own k → ¬ F k) : Sl w' b own st := L.keep h fun k hk => hg.block k (L.lt h k hk) (hc k hk)
end Go.Proofs.Ytdjagifmcimedaa
