/- Two steps that were parsed, each in a block of its own; texts put together. Conditions: none. TextinEnds returns true for every text, and writes nothing that was there. Conditions: the listed variables hold what the program's text lays. -/
import Derived.Test.YthofdmepofepgaaDoorG38Joined
import Derived.Test.YthofdmepofepgaaDoorG37Joined
import Derived.Test.YthofdmepofepgaaDoorByteOnto
namespace Go.Proofs.YthofdmepofepgaaDoor
set_option linter.unusedVariables false
open Go.RowKit

theorem cat_list (s : ByteArray) (x : Array UInt8) : (s ++ (⟨x⟩ : ByteArray)).data.toList = s.data.toList ++ x.toList := by
  rw [ByteArray.data_append, Array.toList_append]
theorem cat_size (s : ByteArray) (x : Array UInt8) : (s ++ (⟨x⟩ : ByteArray)).size = s.size + x.size := by
  rw [ByteArray.size_append]; rfl
/-- Two steps that were parsed, each in a block of its own. -/
structure TwoAt (w W : World) (P1 P2 : Nat) (s1 s2 : Sv) (ca ta ka cb tb kb : Option Addr) (cc tc kc cd td kd : Nat) : Prop where
  gr : w.grownBy W none
  lo : w.heap.size ≤ P1
  lt : P1 < P2
  hi : P2 < W.heap.size
  b1 : W.heap[P1]? = some (.cells (stC s1 ca cc ta tc ka kc) 33 (0, 0))
  b2 : W.heap[P2]? = some (.cells (stC s2 cb cd tb td kb kd) 33 (0, 0))
  q : ∀ W' : World, (∀ k, w.heap.size ≤ k → k < W.heap.size → k ≠ P1 → k ≠ P2 → W'.heap[k]? = W.heap[k]?) → W.heap.size ≤ W'.heap.size → QAt W' s1.req ca cc ta tc ka kc ∧ QAt W' s2.req cb cd tb td kb kd
section
variable {w W w2 W2 w3 W3 : World} {P1 P2 : Nat} {s1 s2 s' : Sv} {ca ta ka cb tb kb : Option Addr} {cc tc kc cd td kd : Nat}
theorem two_of (q1 : ∀ W' : World, (∀ k, w.heap.size ≤ k → k < w2.heap.size → W'.heap[k]? = w2.heap[k]?) → w2.heap.size ≤ W'.heap.size → QAt W' s1.req ca cc ta tc ka kc) (g1 : w.grownBy w2 none) (hW2 : W2 = w2.alloc (.cells (stC s1 ca cc ta tc ka kc) 33)) (hP1 : P1 = w2.heap.size)
    (q2 : ∀ W' : World, (∀ k, W2.heap.size ≤ k → k < w3.heap.size → W'.heap[k]? = w3.heap[k]?) → w3.heap.size ≤ W'.heap.size → QAt W' s2.req cb cd tb td kb kd) (g2 : W2.grownBy w3 none) (hW3 : W3 = w3.alloc (.cells (stC s2 cb cd tb td kb kd) 33)) (hP2 : P2 = w3.heap.size) : TwoAt w W3 P1 P2 s1 s2 ca ta ka cb tb kb cc tc kc cd td kd := by
  have z2 : W2.heap.size = w2.heap.size + 1 := by rw [hW2, World.size_alloc]
  have z3 : W3.heap.size = w3.heap.size + 1 := by rw [hW3, World.size_alloc]
  have y1 := g1.size
  have y2 := g2.size
  have k2 : w2.grownBy W2 none := by rw [hW2]; exact World.grownBy_alloc _ _ _
  have k3 : w3.grownBy W3 none := by rw [hW3]; exact World.grownBy_alloc _ _ _
  have n1 : W2.heap[P1]? = some (.cells (stC s1 ca cc ta tc ka kc) 33 (0, 0)) := by rw [hW2, hP1]; exact World.alloc_heap_new _ _
  have n2 : W3.heap[P2]? = some (.cells (stC s2 cb cd tb td kb kd) 33 (0, 0)) := by rw [hW3, hP2]; exact World.alloc_heap_new _ _
  refine ⟨gr_trans g1 (gr_trans k2 (gr_trans g2 k3)), by omega, by omega, by omega, (k3.block P1 (by omega) (by simp)).trans ((g2.block P1 (by omega) (by simp)).trans n1), n2, fun W' hs hz => ⟨q1 W' (fun k hk hl => ?_) (by omega), q2 W' (fun k hk hl => ?_) (by omega)⟩⟩
  · exact (hs k hk (by omega) (by omega) (by omega)).trans ((k3.block k (by omega) (by simp)).trans ((g2.block k (by omega) (by simp)).trans (k2.block k hl (by simp))))
  · exact (hs k (by omega) (by omega) (by omega) (by omega)).trans (k3.block k hl (by simp))
theorem TwoAt.now (h : TwoAt w W P1 P2 s1 s2 ca ta ka cb tb kb cc tc kc cd td kd) : StepAt W s1 (stC s1 ca cc ta tc ka kc) ∧ StepAt W s2 (stC s2 cb cd tb td kb kd) := by
  obtain ⟨h1, h2⟩ := h.q W (fun _ _ _ _ _ => rfl) (Nat.le_refl _)
  exact ⟨⟨_, _, _, _, _, _, rfl, h1⟩, ⟨_, _, _, _, _, _, rfl, h2⟩⟩
theorem TwoAt.put1 (h : TwoAt w W P1 P2 s1 s2 ca ta ka cb tb kb cc tc kc cd td kd) (j : Nat) (v : Value) (hs : (stC s1 ca cc ta tc ka kc).setIfInBounds j v = stC s' ca cc ta tc ka kc) (hq : ∀ W', QAt W' s1.req ca cc ta tc ka kc → QAt W' s'.req ca cc ta tc ka kc) : TwoAt w (W.setCell ⟨P1, j, none⟩ v) P1 P2 s' s2 ca ta ka cb tb kb cc tc kc cd td kd := by
  have o : ∀ k, k ≠ P1 → (W.setCell ⟨P1, j, none⟩ v).heap[k]? = W.heap[k]? := fun k hk => heap_setCell_other _ _ _ _ hk
  have n := heap_setCell_same W P1 j _ _ v h.b1
  rw [hs] at n
  have hg := h.gr
  have l1 := h.lo
  have l2 := h.lt
  refine ⟨⟨hg.1, hg.2, hg.3, by rw [World.size_setCell]; exact hg.4, fun k hk _ => (o k (by omega)).trans (hg.5 k hk (by simp))⟩, h.lo, h.lt, by rw [World.size_setCell]; exact h.hi, n, (o P2 (by omega)).trans h.b2, fun W' hs hz => ?_⟩
  rw [World.size_setCell] at hs hz
  obtain ⟨a1, a2⟩ := h.q W' (fun k hk hl h1 h2 => (hs k hk hl h1 h2).trans (o k h1)) hz
  exact ⟨hq W' a1, a2⟩
theorem TwoAt.put2 (h : TwoAt w W P1 P2 s1 s2 ca ta ka cb tb kb cc tc kc cd td kd) (j : Nat) (v : Value) (hs : (stC s2 cb cd tb td kb kd).setIfInBounds j v = stC s' cb cd tb td kb kd) (hq : ∀ W', QAt W' s2.req cb cd tb td kb kd → QAt W' s'.req cb cd tb td kb kd) : TwoAt w (W.setCell ⟨P2, j, none⟩ v) P1 P2 s1 s' ca ta ka cb tb kb cc tc kc cd td kd := by
  have o : ∀ k, k ≠ P2 → (W.setCell ⟨P2, j, none⟩ v).heap[k]? = W.heap[k]? := fun k hk => heap_setCell_other _ _ _ _ hk
  have n := heap_setCell_same W P2 j _ _ v h.b2
  rw [hs] at n
  have hg := h.gr
  have l1 := h.lo
  have l2 := h.lt
  refine ⟨⟨hg.1, hg.2, hg.3, by rw [World.size_setCell]; exact hg.4, fun k hk _ => (o k (by omega)).trans (hg.5 k hk (by simp))⟩, h.lo, h.lt, by rw [World.size_setCell]; exact h.hi, (o P1 (by omega)).trans h.b1, n, fun W' hs hz => ?_⟩
  rw [World.size_setCell] at hs hz
  obtain ⟨a1, a2⟩ := h.q W' (fun k hk hl h1 h2 => (hs k hk hl h1 h2).trans (o k h2)) hz
  exact ⟨a1, hq W' a2⟩
end
theorem set_used (s : Sv) (z : Int) (ca ta ka : Option Addr) (cc tc kc : Nat) : (stC s ca cc ta tc ka kc).setIfInBounds 12 (.int .i64 z) = stC { s with used := z } ca cc ta tc ka kc := by simp [stC]
end Go.Proofs.YthofdmepofepgaaDoor

namespace Go.Proofs.YthofdmepofepgaaDoor
set_option linter.unusedVariables false
open Go.RowKit

/-- A text as bytes, parsed. -/
theorem text_parse {w : World} (hL : Laid w) (S : ByteArray) (hS : S.size ≤ 100000) : ∃ c w', (convert 9 22 (.string S)).run Tryd.prog w = .ok (.slice (some ⟨w.heap.size, 0, none⟩) S.size c) w' ∧ Calls Tryd.prog 9 #[.slice (some ⟨w.heap.size, 0, none⟩) S.size c] w' fun e w2 => ParseEnd (parseN S.data.toList) w e w2 := by
  obtain ⟨c, w', h1, h2, h3⟩ := free_bytes S (by unfold maxLen; omega) w
  refine ⟨c, w', h1, (parse_any (hL.on (below_gr h3)) h2.bu (by omega)).mono fun e w2 h => h.up h3⟩
/-- A line that ends with a line feed alone. -/
theorem ends_ways {l : List UInt8} (h : (10 : UInt8) ∉ l) (h13 : (13 : UInt8) ∉ l) (hl : l.length ≤ 2048) : (parseN (l ++ [13, 10]) = moreS ∧ parseN (l ++ [10]) = moreS) ∨ ((parseN (l ++ [13, 10])).e ≠ 3 ∧ (parseN (l ++ [10])).e ≠ 3 ∧ (parseN (l ++ [13, 10])).used = (l.length : Int) + 2 ∧ { parseN (l ++ [13, 10]) with used := (l.length : Int) + 1 } = parseN (l ++ [10]) ∧ Few1 (parseN (l ++ [10])).req) := by
  rw [parse_crlf [] h hl, parse_lf [] h h13 hl]
  rcases lineS_nil (wordsL l) with hm | ⟨s, hs, hx⟩
  · exact .inl ⟨hm _, hm _⟩
  · have hf := line_few (wordsL l) [] ((l.length + 1 : Nat) : Int) (by have := wordsL_len l; omega)
    rw [hx] at hf
    rw [hx, hx]
    exact .inr ⟨hs, hs, by simp, by simp, hf⟩
end Go.Proofs.YthofdmepofepgaaDoor
