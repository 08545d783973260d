/- What walks of ranges over functions share: a slice that grows in its box, the loops' own records, the last store. Conditions: none. -/
import Derived.RangeFuncNested
import Derived.RangeFuncBound
import Derived.RangeFuncCalls
import Derived.RangeFuncLeaves
import Derived.RangeFuncBox
import Derived.Shelf.Abstract
import Derived.Shelf.RegionOpen
import Derived.OwnWalkIn
import Derived.TacticsInMore
import Derived.LoopNIn
import Derived.LoopIn
import Derived.Maps.AppendAt
import Derived.Laws.AppendOwn
import Derived.Test.YtbpfgakcdainlaaDoorG00Joined
namespace Go.Proofs.YtbpfgakcdainlaaDoor
open Go.RowKit Go.Shelf

theorem row_beyond {W : World} {base e size k : Nat} {v : Value} {xs : List Value} (h : W.ownsRow base e size v k xs) {B : Nat} (hB : B < base) : some B ≠ v.ownBlock := by
  rcases h.2 with ⟨rfl, _⟩ | ⟨g, cap, cur, rfl, hg, _⟩
  · simp [Value.ownBlock]
  · intro e'
    have : B = g := by simpa [Value.ownBlock] using e'
    omega

/-- Behind an append to a boxed slice whose row lies beyond all boxes: the store goes through, the box holds the longer slice, the other boxes hold what they held. -/
theorem appended3 {W w1 : World} {n₀ B b : Nat} {t e : TypeId} {size : Nat} {v v' : Value} {k m : Nat} {xs ys : List Value} {tmp : Obj}
    (hv : Boxed W B t v) (hrow : W.ownsRow b e size v k xs) (hn : b ≤ W.heap.size) (hBb : B < b) (h0 : n₀ ≤ B)
    (hown' : w1.ownsRow b e size v' m ys) (hgrow : (W.alloc tmp).grownBy w1 v.ownBlock) :
    Boxed w1 B t v ∧ Boxed (w1.setCell ⟨B, 0, none⟩ v') B t v' ∧ (w1.setCell ⟨B, 0, none⟩ v').ownsRow b e size v' m ys ∧ KeepsOthers W (w1.setCell ⟨B, 0, none⟩ v') ∧ Below n₀ W (w1.setCell ⟨B, 0, none⟩ v') ∧
      (∀ B' t' u, Boxed W B' t' u → B' < b → B' ≠ B → Boxed (w1.setCell ⟨B, 0, none⟩ v') B' t' u) := by
  have hv1 : Boxed w1 B t v := (hv.alloc tmp).kept hgrow (row_beyond hrow hBb)
  refine ⟨hv1, hv1.set v', ownsRow_setCell_below hown' hBb v', ?_, ?_, ?_⟩
  · refine ((KeepsOthers.alloc W tmp).trans (KeepsOthers.of_grownBy hgrow fun j o ej hj => ?_)).trans (KeepsOthers.setCell _ _ _)
    rcases (hrow.alloc tmp).2 with ⟨rfl, _⟩ | ⟨g, cap, cur, rfl, _, hgb, _⟩
    · simp [Value.ownBlock] at ej
    · obtain rfl : g = j := by simpa [Value.ownBlock] using ej
      rw [hgb] at hj; cases hj; rfl
  · refine (((Below.refl n₀ W).alloc (by omega) tmp).grown hgrow (by simp; omega) fun j ej => ?_).setCell (p := ⟨B, 0, none⟩) h0 v'
    rcases hrow.2 with ⟨rfl, _⟩ | ⟨g, cap, cur, rfl, hb, _, _⟩
    · simp [Value.ownBlock] at ej
    · obtain rfl : g = j := by simpa [Value.ownBlock] using ej
      omega
  · intro B' t' u h hb hne
    exact Boxed.other ((h.alloc tmp).kept hgrow (row_beyond hrow hb)) hne v'
theorem deferred_own {β : Type} {D B : Nat} (h : D < B) : OwnFrom B (fun (_ : β) W => W.heap[D]? = some (.deferred (some []))) := fun _ W W' row hs hg hr =>
  (hg.block D (Array.getElem?_eq_some_iff.1 hs).1 (fun e => by have := (hr D e.symm).1; omega)).trans hs

/-- Behind the last store: the answer lies in its cell, and nothing that was there is written. -/
theorem last_store {w W : World} {R D : Nat} {t : TypeId} {b0 b : Bool} (hR : Boxed W R t (.bool b0)) (hD : w.heap.size ≤ D) (hRD : R ≠ D) (hwR : w.heap.size ≤ R) (hB : Below w.heap.size w W) (hK : W.heap[D]? = some (.deferred (some []))) :
    (W.setCell ⟨R, 0, none⟩ (.bool b)).heap[D]? = some (.deferred (some [])) ∧ ((W.setCell ⟨R, 0, none⟩ (.bool b)).putObj D (.deferred none)).cell? ⟨R, 0, none⟩ = some (.bool b) ∧ Below w.heap.size w ((W.setCell ⟨R, 0, none⟩ (.bool b)).putObj D (.deferred none)) := by
  have h1 := (KeepsOthers.setCell W ⟨R, 0, none⟩ (.bool b)).same D _ hK rfl
  refine ⟨h1, ?_, ?_⟩
  · rw [World.cell?_of_block (w := W.setCell ⟨R, 0, none⟩ (.bool b)) (World.putObj_heap_other hRD)]
    exact (hR.set (.bool b)).cell
  · exact (hB.setCell (p := ⟨R, 0, none⟩) hwR (.bool b)).trans (belowK_b (w := w) (Nat.le_refl _) _ D _ _ hD h1 rfl rfl)

/-- The same behind two loops: both records are taken, the inner one's first. -/
theorem last_store2 {w W : World} {R D E : Nat} {t : TypeId} {b0 b : Bool} (hR : Boxed W R t (.bool b0)) (hD : w.heap.size ≤ D) (hE : w.heap.size ≤ E) (hDE : E ≠ D) (hRD : R ≠ D) (hRE : R ≠ E) (hwR : w.heap.size ≤ R) (hB : Below w.heap.size w W) (hK : W.heap[D]? = some (.deferred (some []))) (hE2 : W.heap[E]? = some (.deferred (some []))) :
    (W.setCell ⟨R, 0, none⟩ (.bool b)).heap[D]? = some (.deferred (some [])) ∧ ((W.setCell ⟨R, 0, none⟩ (.bool b)).putObj D (.deferred none)).heap[E]? = some (.deferred (some [])) ∧ (((W.setCell ⟨R, 0, none⟩ (.bool b)).putObj D (.deferred none)).putObj E (.deferred none)).cell? ⟨R, 0, none⟩ = some (.bool b) ∧ Below w.heap.size w (((W.setCell ⟨R, 0, none⟩ (.bool b)).putObj D (.deferred none)).putObj E (.deferred none)) := by
  obtain ⟨h1, h2, h3⟩ := last_store (b := b) hR hD hRD hwR hB hK
  have k1 := (KeepsOthers.setCell W ⟨R, 0, none⟩ (.bool b)).same E _ hE2 rfl
  have k2 : ((W.setCell ⟨R, 0, none⟩ (.bool b)).putObj D (.deferred none)).heap[E]? = some (.deferred (some [])) := (World.putObj_heap_other hDE).trans k1
  refine ⟨h1, k2, ?_, ?_⟩
  · rw [World.cell?_of_block (w := (W.setCell ⟨R, 0, none⟩ (.bool b)).putObj D (.deferred none)) (World.putObj_heap_other hRE)]
    exact h2
  · exact h3.trans (belowK_b (w := w) (Nat.le_refl _) _ E _ _ hE k2 rfl rfl)
end Go.Proofs.YtbpfgakcdainlaaDoor
