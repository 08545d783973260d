/- Several cells of a block that are stored, one behind the other. Conditions: none. A row that is stored into a block that was just made. Conditions: none. -/
import Derived.Test.YtgekjakihocgnaaDoorG00Joined
namespace Go.Proofs.YtgekjakihocgnaaDoor
open Go.RowKit

/-- Cells of a block, some of them set. -/
def setL (cs : Array Value) (o : Nat) : List Value → Array Value
  | [] => cs
  | v :: vs => setL (cs.setIfInBounds o v) (o + 1) vs
theorem setL_heap {k : Nat} {t : TypeId} : ∀ (vs : List Value) (o : Nat) (W : World) (cs : Array Value), W.heap[k]? = some (.cells cs t (0, 0)) → (W.setCells k o vs).heap[k]? = some (.cells (setL cs o vs) t (0, 0))
  | [], _, _, _, h => h
  | v :: vs, o, W, cs, h => setL_heap vs (o + 1) (W.setCell ⟨k, o, none⟩ v) (cs.setIfInBounds o v) (heap_setCell_same W k o cs t v h)
theorem setL_grow {k : Nat} : ∀ (vs : List Value) (o : Nat) (W : World), Gr (fun j => j = k) W (W.setCells k o vs)
  | [], _, W => Gr.refl _ W
  | v :: vs, o, W => by
    have h1 : Gr (fun j => j = k) W (W.setCell ⟨k, o, none⟩ v) := ⟨rfl, rfl, rfl, by rw [World.size_setCell]; exact Nat.le_refl _, fun j _ hn => heap_setCell_other _ _ _ _ hn⟩
    exact h1.trans (setL_grow vs (o + 1) (W.setCell ⟨k, o, none⟩ v))
theorem Law.setL {w0 w : World} {k : Nat} {cs : Array Value} {t : TypeId} {R : Part} (H : Law w0 w ((boxP k (.cells cs t)).and R)) (o : Nat) (vs : List Value) : Law w0 (w.setCells k o vs) ((boxP k (.cells (setL cs o vs) t)).and R) := by
  have hg := setL_grow (k := k) vs o w
  exact H.turn (A' := boxP k (.cells (Go.Proofs.YtgekjakihocgnaaDoor.setL cs o vs) t)) (setL_heap vs o w cs H.q.1) (fun j hj => Nat.lt_of_lt_of_le (H.lt j (.inl hj)).2 hg.size) hg fun j hj => .inl hj
end Go.Proofs.YtgekjakihocgnaaDoor

namespace Go.Proofs.YtgekjakihocgnaaDoor
open Go.RowKit

theorem setRow_alloc (W : World) (old cs : Array Value) (t : TypeId) : (W.alloc (.cells old t)).setRow W.heap.size cs = W.alloc (.cells cs t) := by
  have e : (W.heap.push (.cells old t)).modify W.heap.size (fun | .cells _ elem frozen => .cells cs elem frozen | o => o) = W.heap.push (.cells cs t) := by
    apply Array.ext
    · simp
    · intro i h1 h2
      rw [Array.getElem_modify]
      by_cases hi : W.heap.size = i
      · subst hi
        simp
      · have h3 : i < W.heap.size := by simp at h2; omega
        simp [hi, Array.getElem_push_lt h3]
  exact congrArg (fun h => ({ W with heap := h } : World)) e
theorem setRow_alloc2 (w : World) (o : Obj) (old cs : Array Value) (t : TypeId) : ((w.alloc o).alloc (.cells old t)).setRow (w.heap.size + 1) cs = (w.alloc o).alloc (.cells cs t) := by
  have := setRow_alloc (w.alloc o) old cs t
  rwa [World.size_alloc] at this
end Go.Proofs.YtgekjakihocgnaaDoor
