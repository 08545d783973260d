/- The ten cells of an item, in a row or in a block of its own; items that were told. Conditions: none. -/
import Derived.Test.YtckjjfkfapfdaaaGreatG37Joined
namespace Go.Proofs.YtckjjfkfapfdaaaGreat
open Go.RowKit Go.Shelf

abbrev HasM (b o : Nat) (v : Iv) (a : Option Addr) (c : Nat) (w : World) : Prop := w.cell? ⟨b, o, none⟩ = some (.string v.key) ∧ w.cell? ⟨b, o + 1, none⟩ = some (.slice a v.val.length c) ∧ w.cell? ⟨b, o + 2, none⟩ = some (.int .u32 v.fl) ∧ w.cell? ⟨b, o + 3, none⟩ = some (.int .i64 v.exp) ∧ w.cell? ⟨b, o + 4, none⟩ = some (.int .u64 v.cas) ∧ w.cell? ⟨b, o + 5, none⟩ = some (.int .i64 v.sec) ∧ w.cell? ⟨b, o + 6, none⟩ = some (.int .u64 v.seq) ∧ w.cell? ⟨b, o + 7, none⟩ = some (.bool v.st) ∧ w.cell? ⟨b, o + 8, none⟩ = some (.bool v.won) ∧ w.cell? ⟨b, o + 9, none⟩ = some (.bool v.seen)
abbrev HasB (b : Nat) (v : Iv) (a : Option Addr) (c : Nat) (w : World) : Prop := w.cell? ⟨b, 0, none⟩ = some (.string v.key) ∧ w.cell? ⟨b, 1, none⟩ = some (.slice a v.val.length c) ∧ w.cell? ⟨b, 2, none⟩ = some (.int .u32 v.fl) ∧ w.cell? ⟨b, 3, none⟩ = some (.int .i64 v.exp) ∧ w.cell? ⟨b, 4, none⟩ = some (.int .u64 v.cas) ∧ w.cell? ⟨b, 5, none⟩ = some (.int .i64 v.sec) ∧ w.cell? ⟨b, 6, none⟩ = some (.int .u64 v.seq) ∧ w.cell? ⟨b, 7, none⟩ = some (.bool v.st) ∧ w.cell? ⟨b, 8, none⟩ = some (.bool v.won) ∧ w.cell? ⟨b, 9, none⟩ = some (.bool v.seen)
theorem hasM_of {w : World} {b o : Nat} {v : Iv} {a : Option Addr} {c : Nat} (h : ∀ (j : Nat) (u : Value), (itC (itOf v a c)).toList[j]? = some u → w.cell? ⟨b, o + j, none⟩ = some u) : HasM b o v a c w :=
  ⟨h 0 _ rfl, h 1 _ rfl, h 2 _ rfl, h 3 _ rfl, h 4 _ rfl, h 5 _ rfl, h 6 _ rfl, h 7 _ rfl, h 8 _ rfl, h 9 _ rfl⟩
theorem hasB_of {w : World} {b : Nat} {v : Iv} {a : Option Addr} {c : Nat} {t : TypeId} (h : w.heap[b]? = some (.cells (itC (itOf v a c)) t (0, 0))) : HasB b v a c w := it_cells h
theorem cell_grown {w w' : World} {b o : Nat} {v : Value} (h : w.cell? ⟨b, o, none⟩ = some v) (hg : w.grownBy w' none) : w'.cell? ⟨b, o, none⟩ = some v :=
  ((below_gr hg).cell (p := ⟨b, o, none⟩) (World.block_lt_of_cell? w _ h)).trans h
theorem HasM.on {w w' : World} {b o : Nat} {v : Iv} {a : Option Addr} {c : Nat} (h : HasM b o v a c w) (hg : w.grownBy w' none) : HasM b o v a c w' := by
  obtain ⟨h0, h1, h2, h3, h4, h5, h6, h7, h8, h9⟩ := h
  exact ⟨cell_grown h0 hg, cell_grown h1 hg, cell_grown h2 hg, cell_grown h3 hg, cell_grown h4 hg, cell_grown h5 hg, cell_grown h6 hg, cell_grown h7 hg, cell_grown h8 hg, cell_grown h9 hg⟩
theorem HasB.on {w w' : World} {b : Nat} {v : Iv} {a : Option Addr} {c : Nat} (h : HasB b v a c w) (hg : w.grownBy w' none) : HasB b v a c w' := by
  obtain ⟨h0, h1, h2, h3, h4, h5, h6, h7, h8, h9⟩ := h
  exact ⟨cell_grown h0 hg, cell_grown h1 hg, cell_grown h2 hg, cell_grown h3 hg, cell_grown h4 hg, cell_grown h5 hg, cell_grown h6 hg, cell_grown h7 hg, cell_grown h8 hg, cell_grown h9 hg⟩
/-- One of the items that were told. -/
theorem items_at {w : World} {v : Value} {xs : List Told} {j n : Nat} {x : Told} (h : (itemsP v xs).q w) (hn : xs.length = n) (hx : xs[j]? = some x) : ∃ g cap, v = .slice (some ⟨g, 0, none⟩) n cap ∧ w.rangeAt g (j * 10) (itC x.it).toList ∧ HasM g (j * 10) x.iv x.a x.c w ∧ Bs w x.a x.iv.val.length x.c (ints x.iv.val) := by
  have hj := (List.getElem?_eq_some_iff.1 hx).1
  have hr : w.ownsRow 0 34 10 v xs.length (itsV (xs.map Told.it)) := h.1
  rw [hn] at hr
  obtain ⟨g, cap, rfl⟩ := own_form hr (by omega)
  have row := it_row (x := x.it) hr (by rw [List.length_map, hn]) (by rw [List.getElem?_map, hx]; rfl)
  exact ⟨g, cap, rfl, row, hasM_of row, ValAt.bs (h.2.1 x (List.mem_of_getElem? hx))⟩
theorem setRow_newB (W : World) (old cs : Array Value) (t : TypeId) : (W.alloc (.cells old t)).setRow W.heap.size cs = W.alloc (.cells cs t) := setRow_alloc W old cs t
theorem told_at {xs : List Told} {E : List Ent} (h : xs.map Told.iv = E.map Prod.fst) {j : Nat} {e : Ent} (he : E[j]? = some e) : ∃ x, xs[j]? = some x ∧ x.iv = e.1 := by
  have h1 := congrArg (fun l => l[j]?) h
  simp only [List.getElem?_map, he, Option.map_some] at h1
  cases hx : xs[j]? with
  | none => rw [hx] at h1; cases h1
  | some x =>
    rw [hx] at h1
    exact ⟨x, rfl, Option.some.inj h1⟩
end Go.Proofs.YtckjjfkfapfdaaaGreat
