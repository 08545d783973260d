/- Two steps that were parsed, each in a block of its own; rows of bytes put together. Conditions: none. -/
import Derived.Test.YtegaljpllcgaaaaBinAw
import Derived.Test.YtegaljpllcgaaaaBinMoreM
import Derived.Test.YtegaljpllcgaaaaG21Joined
namespace Go.Proofs.Ytegaljpllcgaaaa
set_option linter.unusedVariables false
open Go.RowKit

theorem byU_two (u v : List UInt8) : byU (u ++ v) = byU u ++ byU v := by unfold byU byV ints; simp
theorem own_one {n0 n c : Nat} {w : World} {a : Option Addr} {u : List UInt8} (hu : u.length = n) (h : w.ownsRow n0 5 1 (.slice a n c) n ([] ++ byU u)) : Bu w a n c u := by
  have q : ValAt n0 w a c u := by
    unfold ValAt
    rw [hu]
    exact h
  have := q.bu
  rw [hu] at this
  exact this
theorem own_two {n0 n m c : Nat} {w : World} {a : Option Addr} {u v : List UInt8} (hu : u.length = n) (hv : v.length = m) (h : w.ownsRow n0 5 1 (.slice a (n + m) c) (n + m) ([] ++ byU u ++ byU v)) : Bu w a (n + m) c (u ++ v) := by
  have hl : (u ++ v).length = n + m := by rw [List.length_append, hu, hv]
  have q : ValAt n0 w a c (u ++ v) := by
    unfold ValAt
    rw [hl, byU_two]
    exact h
  have := q.bu
  rw [hl] at this
  exact this
theorem gr_own {a b c : World} {row : Option Nat} (h : a.grownBy b none) (k : b.grownBy c row) (hr : ∀ n, row = some n → a.heap.size ≤ n) : a.grownBy c none :=
  ⟨k.1.trans h.1, k.2.trans h.2, k.3.trans h.3, Nat.le_trans h.4 k.4, fun i hi _ => (k.5 i (Nat.lt_of_lt_of_le hi h.4) (fun e => by have := hr i e.symm; omega)).trans (h.5 i hi (by simp))⟩
theorem Bsz {W w1 w2 W2 : World} {o : Obj} (h : Below W.heap.size W w1) (g : w1.grownBy w2 none) (e : W2 = w2.alloc o) : W.heap.size ≤ W2.heap.size := by
  have h1 := h.size
  have h2 := g.size
  rw [e, World.size_alloc]
  omega
/-- Two steps, each in its block; what they hold lies ahead of the second block. -/
structure TwoB (w W : World) (P1 P2 : Nat) (s1 s2 : Sv) (ca ta ka cb tb kb : Option Addr) (cc tc kc cd td kd : Nat) : Prop where
  gr : w.grownBy W none
  lo : w.heap.size ≤ P1
  lt : P1 < P2
  hi : P2 < W.heap.size
  b1 : W.heap[P1]? = some (.cells (stC s1 ca cc ta tc ka kc) 34 (0, 0))
  b2 : W.heap[P2]? = some (.cells (stC s2 cb cd tb td kb kd) 34 (0, 0))
  q : ∃ V : World, V.heap.size ≤ P2 ∧ Below V.heap.size V W ∧ QAt V s1.req ca cc ta tc ka kc ∧ QAt V s2.req cb cd tb td kb kd
section
variable {w W w2 W2 w3 W3 : World} {P1 P2 : Nat} {s1 s2 s' : Sv} {ca ta ka cb tb kb : Option Addr} {cc tc kc cd td kd : Nat}
theorem twoB_of (q1 : QAt w2 s1.req ca cc ta tc ka kc) (g1 : w.grownBy w2 none) (hW2 : W2 = w2.alloc (.cells (stC s1 ca cc ta tc ka kc) 34)) (hP1 : P1 = w2.heap.size)
    (q2 : QAt w3 s2.req cb cd tb td kb kd) (g2 : W2.grownBy w3 none) (hW3 : W3 = w3.alloc (.cells (stC s2 cb cd tb td kb kd) 34)) (hP2 : P2 = w3.heap.size) : TwoB w W3 P1 P2 s1 s2 ca ta ka cb tb kb cc tc kc cd td kd := by
  have z2 : W2.heap.size = w2.heap.size + 1 := by rw [hW2, World.size_alloc]
  have z3 : W3.heap.size = w3.heap.size + 1 := by rw [hW3, World.size_alloc]
  have y1 := g1.size
  have y2 := g2.size
  have k2 : w2.grownBy W2 none := by rw [hW2]; exact World.grownBy_alloc _ _ _
  have k3 : w3.grownBy W3 none := by rw [hW3]; exact World.grownBy_alloc _ _ _
  have n1 : W2.heap[P1]? = some (.cells (stC s1 ca cc ta tc ka kc) 34 (0, 0)) := by rw [hW2, hP1]; exact World.alloc_heap_new _ _
  have n2 : W3.heap[P2]? = some (.cells (stC s2 cb cd tb td kb kd) 34 (0, 0)) := by rw [hW3, hP2]; exact World.alloc_heap_new _ _
  exact ⟨gr_trans g1 (gr_trans k2 (gr_trans g2 k3)), by omega, by omega, by omega, (k3.block P1 (by omega) (by simp)).trans ((g2.block P1 (by omega) (by simp)).trans n1), n2, w3, by omega, below_gr k3, q1.on (below_gr (gr_trans k2 g2)), q2⟩
theorem TwoB.now (h : TwoB w W P1 P2 s1 s2 ca ta ka cb tb kb cc tc kc cd td kd) : StepAt W s1 (stC s1 ca cc ta tc ka kc) ∧ StepAt W s2 (stC s2 cb cd tb td kb kd) := by
  obtain ⟨V, _, h3, h1, h2⟩ := h.q
  exact ⟨⟨_, _, _, _, _, _, rfl, h1.on h3⟩, ⟨_, _, _, _, _, _, rfl, h2.on h3⟩⟩
/-- A field of the second step is written. -/
theorem TwoB.put2 (h : TwoB w W P1 P2 s1 s2 ca ta ka cb tb kb cc tc kc cd td kd) (j : Nat) (v : Value) (hs : (stC s2 cb cd tb td kb kd).setIfInBounds j v = stC s' cb cd tb td kb kd) (hq : ∀ W', QAt W' s2.req cb cd tb td kb kd → QAt W' s'.req cb cd tb td kb kd) : TwoB w (W.setCell ⟨P2, j, none⟩ v) P1 P2 s1 s' ca ta ka cb tb kb cc tc kc cd td kd := by
  have o : ∀ k, k ≠ P2 → (W.setCell ⟨P2, j, none⟩ v).heap[k]? = W.heap[k]? := fun k hk => heap_setCell_other _ _ _ _ hk
  have n := heap_setCell_same W P2 j _ _ v h.b2
  rw [hs] at n
  have hg := h.gr
  have l1 := h.lo
  have l2 := h.lt
  obtain ⟨V, v1, v2, a1, a2⟩ := h.q
  exact ⟨⟨hg.1, hg.2, hg.3, by rw [World.size_setCell]; exact hg.4, fun k hk _ => (o k (by omega)).trans (hg.5 k hk (by simp))⟩, h.lo, h.lt, by rw [World.size_setCell]; exact h.hi, (o P1 (by omega)).trans h.b1, n, V, v1, ⟨v2.os, v2.tape, v2.output, by rw [World.size_setCell]; exact v2.size, fun k hk => (o k (by omega)).trans (v2.block k hk)⟩, a1, hq V a2⟩
end
end Go.Proofs.Ytegaljpllcgaaaa
