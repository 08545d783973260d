/- What the document's own layer 10 answers. Conditions: times up to 2 to the 40th, seconds up to 2 to the 41st, where times are added. What the document's own layer 10 answers: whether an item lives, and what a flush is. Conditions: times up to 2 to the 40th, seconds up to 2 to the 41st, of a flush. -/
import Derived.Test.YthfkcbnabnmnjabGreatDoorG14Joined
import Derived.Laws.ResultCell
namespace Go.Proofs.YthfkcbnabnmnjabGreatDoor
open Go.RowKit Go.Sort

theorem wrap_id10 {a : Int} (h : -9223372036854775808 ≤ a ∧ a < 9223372036854775808) : wrap64 a = a := by unfold wrap64; omega
end Go.Proofs.YthfkcbnabnmnjabGreatDoor

namespace Go.Proofs.YthfkcbnabnmnjabGreatDoor
open Go.RowKit Go.Sort

theorem results_cell10 {fn : Func} {p : Tmp} {ty : TypeId} (h : fn.results = #[.cell p ty]) (tmps : Array Value) (P : Program) (w : World) :
    (results fn tmps).run P w = ((asAddr (tmps.getD p undef)).run P w).andThen fun a w₁ => (loadVar ty a).run P w₁ := by
  simp only [results, h]
  simp [Sem.run_bind, Result.andThen]
theorem live_cases (exp sec seq : Int) (e : En) :
    (exp ≠ 0 ∧ exp ≤ e.now ∧ liveN exp sec seq e = false) ∨
    ((exp = 0 ∨ (exp ≠ 0 ∧ e.now < exp)) ∧ ((e.flush = 0 ∧ liveN exp sec seq e = true) ∨ (e.flush ≠ 0 ∧ e.now < e.flush ∧ liveN exp sec seq e = true) ∨
      (e.flush ≠ 0 ∧ e.flush ≤ e.now ∧ ((e.flush < sec ∧ liveN exp sec seq e = true) ∨ (sec = e.flush ∧ e.fseq ≤ seq ∧ liveN exp sec seq e = true) ∨ (sec = e.flush ∧ seq < e.fseq ∧ liveN exp sec seq e = false) ∨ (sec < e.flush ∧ liveN exp sec seq e = false))))) := by
  by_cases h1 : exp ≠ 0 ∧ exp ≤ e.now
  · exact .inl ⟨h1.1, h1.2, by unfold liveN; rw [if_pos h1]⟩
  · refine .inr ⟨by omega, ?_⟩
    have e1 : ∀ x, (e.flush = 0 ∨ e.now < e.flush) → x = true → liveN exp sec seq e = x := fun x h hx => by unfold liveN; rw [if_neg h1, if_pos h, hx]
    by_cases h2 : e.flush = 0
    · exact .inl ⟨h2, e1 _ (.inl h2) rfl⟩
    · by_cases h3 : e.now < e.flush
      · exact .inr (.inl ⟨h2, h3, e1 _ (.inr h3) rfl⟩)
      · have e2 : liveN exp sec seq e = !decide (elderN sec seq e.flush e.fseq) := by unfold liveN; rw [if_neg h1, if_neg (by omega)]
        refine .inr (.inr ⟨h2, by omega, ?_⟩)
        rw [e2]
        by_cases h4 : e.flush < sec
        · exact .inl ⟨h4, by rw [decide_eq_false (by unfold elderN; omega)]; rfl⟩
        · by_cases h5 : sec = e.flush
          · by_cases h6 : e.fseq ≤ seq
            · exact .inr (.inl ⟨h5, h6, by rw [decide_eq_false (by unfold elderN; omega)]; rfl⟩)
            · exact .inr (.inr (.inl ⟨h5, by omega, by rw [decide_eq_true (by unfold elderN; omega)]; rfl⟩))
          · exact .inr (.inr (.inr ⟨by omega, by rw [decide_eq_true (by unfold elderN; omega)]; rfl⟩))
theorem mid_heap (w : World) (a b c : Obj) : (((w.alloc a).alloc b).alloc c).heap[w.heap.size + 1]? = some b := by
  have h := heap_alloc_new (w.alloc a) b
  rw [World.size_alloc] at h
  exact heap_grown0 (World.grownBy_alloc _ _ none) h
end Go.Proofs.YthfkcbnabnmnjabGreatDoor
