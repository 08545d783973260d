/- Items and envs that came in, opened. Conditions: none. -/
import Derived.Test.YtckjjfkfapfdaabGreatG08Joined
namespace Go.Proofs.YtckjjfkfapfdaabGreat
open Go.RowKit Go.ChangeShapes Go.WideShapes Go.Deep

theorem open_env {H : Type} {enc : TypeId × Value → H} {w : World} {base : Nat} {spare : Nat → Bool} {held : Bool} {n : Nat} {cs : Array Value} {z : DataW H × List MemPlace} (hl : cs.size = Tryz.prog.cellsOf 25)
    (h : DataW.trod enc Tryz.prog w base spare held n 25 cs.toList = some z) : ∃ e : En, cs = enC e ∧ e.ok := by
  have ce : Tryz.prog.cellsOf 25 = 4 := by kernel_rfl
  obtain ⟨e, h1, h2⟩ := env_shape (by rw [Array.length_toList, hl, ce]) h
  exact ⟨e, Array.toList_inj.1 h1, h2⟩
/-- An item, with the bytes of its value. -/
theorem open_itemB {H : Type} {enc : TypeId × Value → H} {w : World} {base : Nat} {spare : Nat → Bool} {held : Bool} {n : Nat} {cs : Array Value} {z : DataW H × List MemPlace} (hl : cs.size = Tryz.prog.cellsOf 35)
    (h : DataW.trod enc Tryz.prog w base spare held n 35 cs.toList = some z) : ∃ (i : Iv) (a : Option Addr) (c : Nat), cs = itC (itOf i a c) ∧ i.raw ∧ Bs w a i.val.length c (ints i.val) := by
  have ce : Tryz.prog.cellsOf 35 = 10 := by kernel_rfl
  obtain ⟨i, a, c, h1, h2, h3⟩ := item_shape (by rw [Array.length_toList, hl, ce]) h
  exact ⟨i, a, c, Array.toList_inj.1 h1, h2, h3⟩
end Go.Proofs.YtckjjfkfapfdaabGreat
