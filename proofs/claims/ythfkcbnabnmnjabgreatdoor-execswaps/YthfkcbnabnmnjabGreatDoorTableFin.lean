/- All of package table, and the contracts of package table, all of them. Conditions: at most 5000 texts, of at most 300 bytes each. -/
import Derived.Test.YthfkcbnabnmnjabGreatDoorG25Joined
namespace Go.Proofs.YthfkcbnabnmnjabGreatDoor
open Go.RowKit Go.Shelf

theorem Tb0.kept {w w' : World} {b : Nat} {own : Nat → Prop} {st : Ts} (h : Tb0 w b own st) (hs : ∀ k, own k → w'.heap[k]? = w.heap[k]?) : Tb0 w' b own st := by
  obtain ⟨sd, vB, vE, bv, ev, B, E, rfl, h2, h3, r⟩ := h
  refine ⟨sd, vB, vE, bv, ev, B, E, rfl, (tabP b sd st.l.length vB vE st.buckets st.left bv ev B E).on w w' h2 hs, fun k hk => ?_, r⟩
  have e := hs k hk
  have hlt := h3 k hk
  rw [Array.getElem?_eq_getElem hlt] at e
  exact (Array.getElem?_eq_some_iff.1 e).1
theorem Tb0.lt {w : World} {b : Nat} {own : Nat → Prop} {st : Ts} (h : Tb0 w b own st) : ∀ k, own k → k < w.heap.size := by
  obtain ⟨_, _, _, _, _, _, _, _, _, h3, _⟩ := h
  exact h3
theorem table_lib : TableLib Tb0 where
  lt := fun h => h.lt
  good := fun h => h.good
  keep := fun h hs => h.kept hs
  new := fun sd hsd w => tnew_any sd hsd w
  put := fun h hS s hs v _ => tput_any h hS s hs v
  get := fun h hS s hs => tget_any h hS s hs
  delete := fun h hS s hs => tdel_any h hS s hs
end Go.Proofs.YthfkcbnabnmnjabGreatDoor
