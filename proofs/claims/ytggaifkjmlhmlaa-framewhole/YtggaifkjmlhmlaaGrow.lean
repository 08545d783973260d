/- Worlds that go on: what is new, what is written. Conditions: none. -/
import Derived.Test.YtggaifkjmlhmlaaKit0
import Derived.Laws.AppendOwn
namespace Go.Proofs.Ytggaifkjmlhmlaa
open Go.RowKit

theorem gr_refl (w : World) (row : Option Nat) : w.grownBy w row := ⟨rfl, rfl, rfl, Nat.le_refl _, fun _ _ _ => rfl⟩
theorem gr_any {a b : World} (h : a.grownBy b none) (row : Option Nat) : a.grownBy b row := ⟨h.1, h.2, h.3, h.4, fun k hk _ => h.5 k hk (by simp)⟩
theorem gr_trans {a b c : World} {row : Option Nat} (h : a.grownBy b row) (k : b.grownBy c row) : a.grownBy c row :=
  ⟨k.1.trans h.1, k.2.trans h.2, k.3.trans h.3, Nat.le_trans h.4 k.4, fun i hi hr => (k.5 i (Nat.lt_of_lt_of_le hi h.4) hr).trans (h.5 i hi hr)⟩
/-- What is written is new. -/
theorem gr_new {a b c : World} {row : Option Nat} {n : Nat} (h : a.grownBy b row) (k : b.grownBy c (some n)) (hn : a.heap.size ≤ n) : a.grownBy c row :=
  ⟨k.1.trans h.1, k.2.trans h.2, k.3.trans h.3, Nat.le_trans h.4 k.4, fun i hi hr => (k.5 i (Nat.lt_of_lt_of_le hi h.4) (fun e => by cases e; omega)).trans (h.5 i hi hr)⟩
theorem gr_below {w a b : World} {row : Option Nat} (hB : Below w.heap.size w a) (h : a.grownBy b row) (hr : ∀ n, row = some n → w.heap.size ≤ n) : Below w.heap.size w b := hB.grown h hB.size hr
theorem gr_of_below {a b : World} (h : Below a.heap.size a b) : a.grownBy b none := ⟨h.os, h.tape, h.output, h.size, fun k hk _ => h.block k hk⟩
theorem below_gr {a b : World} (h : a.grownBy b none) : Below a.heap.size a b := (Below.refl _ _).grown h (Nat.le_refl _) (fun _ e => by cases e)
/-- The world goes on, and writes at most what F names and what is new. -/
structure Gr (F : Nat → Prop) (w w' : World) : Prop where
  os : w'.os = w.os
  tape : w'.tape = w.tape
  output : w'.output = w.output
  size : w.heap.size ≤ w'.heap.size
  block : ∀ k, k < w.heap.size → ¬ F k → w'.heap[k]? = w.heap[k]?
theorem Gr.refl (F : Nat → Prop) (w : World) : Gr F w w := ⟨rfl, rfl, rfl, Nat.le_refl _, fun _ _ _ => rfl⟩
theorem Gr.trans {F : Nat → Prop} {a b c : World} (h : Gr F a b) (k : Gr F b c) : Gr F a c :=
  ⟨k.os.trans h.os, k.tape.trans h.tape, k.output.trans h.output, Nat.le_trans h.size k.size, fun i hi hr => (k.block i (Nat.lt_of_lt_of_le hi h.size) hr).trans (h.block i hi hr)⟩
/-- What the second step writes besides is new. -/
theorem Gr.then {F G : Nat → Prop} {a b c : World} (h : Gr F a b) (k : Gr G b c) (hG : ∀ i, i < a.heap.size → G i → F i) : Gr F a c :=
  ⟨k.os.trans h.os, k.tape.trans h.tape, k.output.trans h.output, Nat.le_trans h.size k.size, fun i hi hr => (k.block i (Nat.lt_of_lt_of_le hi h.size) (fun hg => hr (hG i hi hg))).trans (h.block i hi hr)⟩
theorem Gr.below {F : Nat → Prop} {w a b : World} (hB : Below w.heap.size w a) (h : Gr F a b) (hF : ∀ k, F k → w.heap.size ≤ k) : Below w.heap.size w b :=
  ⟨h.os.trans hB.os, h.tape.trans hB.tape, h.output.trans hB.output, Nat.le_trans hB.size h.size, fun k hk => (h.block k (Nat.lt_of_lt_of_le hk hB.size) (fun hf => by have := hF k hf; omega)).trans (hB.block k hk)⟩
theorem Gr.of {w w' : World} {row : Option Nat} (h : w.grownBy w' row) : Gr (fun k => row = some k) w w' := ⟨h.1, h.2, h.3, h.4, fun k hk hr => h.5 k hk (fun e => hr e.symm)⟩
theorem Gr.to {F : Nat → Prop} {w w' : World} {row : Option Nat} (h : Gr F w w') (hF : ∀ k, F k → row = some k) : w.grownBy w' row := ⟨h.os, h.tape, h.output, h.size, fun k hk hr => h.block k hk (fun hf => hr (hF k hf).symm)⟩
/-- What it owns behind a step was its own, or is new. -/
def Grew (w : World) (own own' : Nat → Prop) : Prop := ∀ k, own' k → own k ∨ w.heap.size ≤ k
end Go.Proofs.Ytggaifkjmlhmlaa
