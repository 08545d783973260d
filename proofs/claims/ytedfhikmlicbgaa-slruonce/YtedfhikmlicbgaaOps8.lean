/- Slices of calls of layer 8 (a number, a key) that came in, opened. Conditions: none. -/
import Derived.Test.YtedfhikmlicbgaaRowsOpen
namespace Go.Proofs.Ytedfhikmlicbgaa
open Go.RowKit Go.ChangeShapes Go.WideShapes Go.Deep

structure Op8 where
  kd : Int
  key : ByteArray
def Op8.cells (o : Op8) : List Value := [.int .i64 o.kd, .string o.key]
structure Op8.ok (o : Op8) : Prop where
  kd : I64 o.kd
  key : o.key.size ≤ maxLen
def OpsAt (w : World) (a : Option Addr) (len cap : Nat) (os : List Op8) : Prop := (RowsAt w a len cap 2 (os.map Op8.cells) ∧ ∀ o ∈ os, o.ok) ∧ len ≤ maxLen
theorem OpsAt.on {w w' : World} {a : Option Addr} {len cap : Nat} {os : List Op8} (h : OpsAt w a len cap os) (hb : Below w.heap.size w w') : OpsAt w' a len cap os := ⟨⟨h.1.1.on hb, h.1.2⟩, h.2⟩
theorem OpsAt.len_ {w : World} {a : Option Addr} {len cap : Nat} {os : List Op8} (h : OpsAt w a len cap os) : os.length = len := by
  have := h.1.1.len_
  rwa [List.length_map] at this
/-- One call's cells. -/
structure OpCell (w : World) (c off k : Nat) (o : Op8) : Prop where
  old : c < w.heap.size
  all : ∀ (j : Nat) (v : Value), o.cells[j]? = some v → w.cell? ⟨c, off + k * 2 + j, none⟩ = some v
theorem OpCell.on {w w' : World} {c off k n : Nat} {o : Op8} (h : OpCell w c off k o) (hn : w.heap.size ≤ n) (hb : Below n w w') : OpCell w' c off k o :=
  ⟨Nat.lt_of_lt_of_le h.old hb.size, fun j v hv => (hb.cell (p := ⟨c, off + k * 2 + j, none⟩) (Nat.lt_of_lt_of_le h.old hn)).trans (h.all j v hv)⟩
theorem OpCell.kd {w : World} {c off k : Nat} {o : Op8} (h : OpCell w c off k o) : w.cell? ⟨c, off + k * 2, none⟩ = some (.int .i64 o.kd) := h.all 0 _ rfl
theorem OpCell.key {w : World} {c off k : Nat} {o : Op8} (h : OpCell w c off k o) : w.cell? ⟨c, off + k * 2 + 1, none⟩ = some (.string o.key) := h.all 1 _ rfl
theorem OpsAt.at {w : World} {a : Option Addr} {len cap : Nat} {os : List Op8} (h : OpsAt w a len cap os) (i : Nat) (hi : i < os.length) : ∃ b off, a = some ⟨b, off, none⟩ ∧ OpCell w b off i os[i] ∧ os[i].ok := by
  obtain ⟨b, off, h1, h2, _, h4⟩ := h.1.1.at i os[i].cells (by rw [List.getElem?_map, List.getElem?_eq_getElem hi]; rfl)
  exact ⟨b, off, h1, ⟨h2, h4⟩, h.1.2 _ (List.getElem_mem hi)⟩

theorem op_shape {H : Type} {enc : TypeId × Value → H} {w : World} {base : Nat} {spare : Nat → Bool} {held : Bool} {n : Nat} {y : List Value} {z : DataW H × List MemPlace} (hl : y.length = 2)
    (h : DataW.trod enc Try.prog w base spare held n 32 y = some z) : ∃ o : Op8, y = o.cells ∧ o.ok := by
  have ci : Try.prog.cellsOf 3 = 1 := by kernel_rfl
  have cs : Try.prog.cellsOf 9 = 1 := by kernel_rfl
  obtain ⟨u0, u1, p, _, _, q0, q1⟩ := trod_struct2 Try.underlying32 h
  match y, hl with
  | [v0, v1], _ =>
    simp [ci] at q0
    simp [cs] at q1
    obtain ⟨k0, e0, _, w0⟩ := DataW.trod_int Try.underlying3 q0
    obtain ⟨k1, e1, _, w1⟩ := DataW.trod_string Try.underlying9 q1
    simp at e0 e1
    subst e0 e1
    exact ⟨⟨k0, k1⟩, rfl, ⟨i64_wf w0, w1⟩⟩
theorem shapes : ∀ (xs : List (List Value)), (∀ y ∈ xs, ∃ o : Op8, y = o.cells ∧ o.ok) → ∃ os : List Op8, xs = os.map Op8.cells ∧ ∀ o ∈ os, o.ok
  | [], _ => ⟨[], rfl, fun o ho => by cases ho⟩
  | x :: xs, h => by
    obtain ⟨o, ho, hk⟩ := h x List.mem_cons_self
    obtain ⟨os, hs, hks⟩ := shapes xs fun y hy => h y (List.mem_cons_of_mem _ hy)
    refine ⟨o :: os, by rw [ho, hs]; rfl, fun p hp => ?_⟩
    rcases List.mem_cons.1 hp with rfl | hp
    · exact hk
    · exact hks p hp
theorem open_ops {H : Type} {enc : TypeId × Value → H} {w : World} {base : Nat} {spare : Nat → Bool} {held : Bool} {fuel : Nat} {a : Option Addr} {len cap : Nat} {x : DataW H × List MemPlace}
    (h : DataW.trod enc Try.prog w base spare held fuel 22 [.slice a len cap] = some x) : ∃ os, OpsAt w a len cap os := by
  have ce : Try.prog.cellsOf 32 = 2 := by kernel_rfl
  have hm : len ≤ maxLen := by
    rcases open_slice Try.underlying22 h with ⟨hcs, _⟩ | ⟨ad, l, c, m, n, D, Pl, hcs, _, hl, hm, _⟩
    · cases hcs
      exact Nat.zero_le _
    · cases hcs
      exact Nat.le_trans hl hm
  obtain ⟨xs, h1, h2⟩ := open_rows Try.underlying22 ce (by decide) h
  obtain ⟨os, rfl, h3⟩ := shapes xs fun y hy => by
    obtain ⟨hl, n, z, hz⟩ := h2 y hy
    exact op_shape hl hz
  exact ⟨os, ⟨h1, h3⟩, hm⟩
end Go.Proofs.Ytedfhikmlicbgaa
