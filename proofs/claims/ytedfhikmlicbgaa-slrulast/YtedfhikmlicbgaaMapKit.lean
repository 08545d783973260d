/- Maps in memory as parts: what is asked, stored and struck out. Conditions: none. -/
import Derived.Test.YtedfhikmlicbgaaPartsF
import Derived.Maps.OwnSet
namespace Go.Proofs.Ytedfhikmlicbgaa
open Go.RowKit Go.Maps

variable {H : Type}
/-- A map is known to have no more entries than its datum. -/
theorem map_tight {w : World} {P : Program} {k : TypeId} {R : Value → Option (DataW H × List MemPlace)} {b n : Nat} {D : DataW H} (h : w.ownsMap P k R b n D) : w.ownsMap P k R b (Maps.size D) D := by
  obtain ⟨es, clock, h1, h2, _, h4⟩ := h
  refine ⟨es, clock, h1, h2, ?_, h4⟩
  rw [h4, Maps.size_eq, length_read]
  exact Nat.le_refl _
theorem map_on {w w' : World} {P : Program} {k : TypeId} {R : Value → Option (DataW H × List MemPlace)} {b n : Nat} {D : DataW H} (h : w.ownsMap P k R b n D) (hs : w'.heap[b]? = w.heap[b]?) : w'.ownsMap P k R b n D := by
  obtain ⟨es, clock, h1, h2⟩ := h
  exact ⟨es, clock, hs.trans h1, h2⟩
/-- A map at block b. -/
def mapP (P : Program) (k : TypeId) (R : Value → Option (DataW H × List MemPlace)) (b : Nat) (D : DataW H) : Part := ⟨fun j => j = b, fun w => w.ownsMap P k R b (Maps.size D) D, fun _ _ h hs => map_on h (hs b rfl)⟩
section
variable {F : Nat → Prop} {w0 w w' : World} {P : Program} {k : TypeId} {R : Value → Option (DataW H × List MemPlace)} {b n : Nat} {D D' : DataW H} {C : Part}
theorem turned_gr (h : w.mapTurned w' b) : Gr (fun j => j = b) w w' := by
  have hg := h.grown
  exact ⟨hg.1, hg.2, hg.3, hg.4, fun j hj hn => hg.5 j hj (fun e => hn (by cases e; rfl))⟩
theorem LawF.mapTurn (L : LawF F w0 w ((mapP P k R b D).and C)) (h : w'.ownsMap P k R b n D') (ht : w.mapTurned w' b) : LawF F w0 w' ((mapP P k R b D').and C) :=
  L.turn (A' := mapP P k R b D') (map_tight h) (fun j hj => by rw [show j = b from hj]; exact h.lt) (turned_gr ht) fun _ hj => .inl hj
theorem LawF.mapNew (L : LawF F w0 w C) : LawF F w0 (w.alloc (.map #[] 0)) ((mapP P k R w.heap.size (.map [])).and C) :=
  L.new (World.grownBy_alloc w _ none) (World.ownsMap_made w P k R) (by rintro j rfl; rw [World.size_alloc]; exact ⟨Nat.le_refl _, Nat.lt_succ_self _⟩)
end
end Go.Proofs.Ytedfhikmlicbgaa
