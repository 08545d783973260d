/- A request and results within the statements' bounds, and the box of a request. Conditions: none. -/
import Derived.Test.YtaafkefgpgoepaaResV
namespace Go.Proofs.Ytaafkefgpgoepaa
set_option linter.unusedVariables false
open Go.RowKit

/-- A request and results within the bounds. -/
structure FewR (r : Qv) (xs : List Rv) : Prop where
  n : r.cmds.length ≤ 40
  m : xs.length ≤ 40
  k : ∀ c ∈ r.cmds, c.key.size ≤ 1000
  v : ∀ x ∈ xs, x.val.length ≤ 2000
/-- The box of a request. -/
structure QBox (w W : World) (q : Nat) (r : Qv) (ca : Option Addr) (cc : Nat) (ta : Option Addr) (tc : Nat) (ka : Option Addr) (kc : Nat) : Prop where
  gr : w.grownBy W none
  lt : q < W.heap.size
  row : W.heap[q]? = some (.cells (rqC r ca cc ta tc ka kc) 28 (0, 0))
section
variable {w W W' : World} {q : Nat} {r : Qv} {ca ta ka : Option Addr} {cc tc kc : Nat}
theorem QBox.new (w : World) (r : Qv) (ca ta ka : Option Addr) (cc tc kc : Nat) : QBox w (w.alloc (.cells (rqC r ca cc ta tc ka kc) 28)) w.heap.size r ca cc ta tc ka kc :=
  ⟨World.grownBy_alloc _ _ _, by rw [World.size_alloc]; omega, World.alloc_heap_new w _⟩
theorem QBox.on (h : QBox w W q r ca cc ta tc ka kc) (hg : W.grownBy W' none) : QBox w W' q r ca cc ta tc ka kc := ⟨gr_trans h.gr hg, Nat.lt_of_lt_of_le h.lt hg.size, (hg.block q h.lt (by simp)).trans h.row⟩
theorem QBox.cells (h : QBox w W q r ca cc ta tc ka kc) : W.cell? ⟨q, 0, none⟩ = some (.slice ca r.cmds.length cc) ∧ W.cell? ⟨q, 1 + 4, none⟩ = some (.bool r.form.quiet) ∧ W.cell? ⟨q, 1 + 5, none⟩ = some (.bool r.form.wcas) ∧ W.cell? ⟨q, 1 + 6, none⟩ = some (.string r.form.flags) ∧ W.cell? ⟨q, 1 + 7, none⟩ = some (.slice ta r.form.toks.length tc) := by
  simp [World.cell?, h.row, rqC]
end
theorem key_cell {w : World} {b o : Nat} {c : Cv} {va : Option Addr} {vc : Nat} (h : w.rangeAt b o (cmC c va vc).toList) : w.cell? ⟨b, o + 1, none⟩ = some (.string c.key) := h 1 _ rfl
theorem int_nltH (n : Nat) : ¬ (n : Int) < (n : Int) := by omega
end Go.Proofs.Ytaafkefgpgoepaa
