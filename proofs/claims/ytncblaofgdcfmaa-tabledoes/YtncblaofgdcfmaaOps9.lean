/- Slices of calls of layer 9 (a number, a text, a number) that came in, opened. Conditions: none. -/
import Derived.Test.YtncblaofgdcfmaaRowsOpen
namespace Go.Proofs.Ytncblaofgdcfmaa
open Go.RowKit Go.ChangeShapes Go.WideShapes Go.Deep

structure Op9 where
  kd : Int
  key : ByteArray
  v : Int
def Op9.cells (o : Op9) : List Value := [.int .i64 o.kd, .string o.key, .int .i64 o.v]
structure Op9.ok (o : Op9) : Prop where
  kd : I64 o.kd
  key : o.key.size ≤ maxLen
  v : I64 o.v
def OpsAt (w : World) (a : Option Addr) (len cap : Nat) (os : List Op9) : Prop := (RowsAt w a len cap 3 (os.map Op9.cells) ∧ ∀ o ∈ os, o.ok) ∧ len ≤ maxLen
theorem OpsAt.on {w w' : World} {a : Option Addr} {len cap : Nat} {os : List Op9} (h : OpsAt w a len cap os) (hb : Below w.heap.size w w') : OpsAt w' a len cap os := ⟨⟨h.1.1.on hb, h.1.2⟩, h.2⟩
theorem OpsAt.len_ {w : World} {a : Option Addr} {len cap : Nat} {os : List Op9} (h : OpsAt w a len cap os) : os.length = len := by
  have := h.1.1.len_
  rwa [List.length_map] at this
/-- One call's cells. -/
structure OpCell (w : World) (c off k : Nat) (o : Op9) : Prop where
  old : c < w.heap.size
  all : ∀ (j : Nat) (v : Value), o.cells[j]? = some v → w.cell? ⟨c, off + k * 3 + j, none⟩ = some v
theorem OpCell.on {w w' : World} {c off k n : Nat} {o : Op9} (h : OpCell w c off k o) (hn : w.heap.size ≤ n) (hb : Below n w w') : OpCell w' c off k o :=
  ⟨Nat.lt_of_lt_of_le h.old hb.size, fun j v hv => (hb.cell (p := ⟨c, off + k * 3 + j, none⟩) (Nat.lt_of_lt_of_le h.old hn)).trans (h.all j v hv)⟩
theorem OpCell.kd {w : World} {c off k : Nat} {o : Op9} (h : OpCell w c off k o) : w.cell? ⟨c, off + k * 3, none⟩ = some (.int .i64 o.kd) := h.all 0 _ rfl
theorem OpCell.key {w : World} {c off k : Nat} {o : Op9} (h : OpCell w c off k o) : w.cell? ⟨c, off + k * 3 + 1, none⟩ = some (.string o.key) := h.all 1 _ rfl
theorem OpCell.v {w : World} {c off k : Nat} {o : Op9} (h : OpCell w c off k o) : w.cell? ⟨c, off + k * 3 + 2, none⟩ = some (.int .i64 o.v) := h.all 2 _ rfl
theorem OpsAt.at {w : World} {a : Option Addr} {len cap : Nat} {os : List Op9} (h : OpsAt w a len cap os) (i : Nat) (hi : i < os.length) : ∃ b off, a = some ⟨b, off, none⟩ ∧ OpCell w b off i os[i] ∧ os[i].ok := by
  obtain ⟨b, off, h1, h2, _, h4⟩ := h.1.1.at i os[i].cells (by rw [List.getElem?_map, List.getElem?_eq_getElem hi]; rfl)
  exact ⟨b, off, h1, ⟨h2, h4⟩, h.1.2 _ (List.getElem_mem hi)⟩

theorem op_shape {H : Type} {enc : TypeId × Value → H} {w : World} {base : Nat} {spare : Nat → Bool} {held : Bool} {n : Nat} {y : List Value} {z : DataW H × List MemPlace} (hl : y.length = 3)
    (h : DataW.trod enc Try.prog w base spare held n 31 y = some z) : ∃ o : Op9, y = o.cells ∧ o.ok := by
  have ci : Try.prog.cellsOf 3 = 1 := by kernel_rfl
  have cs : Try.prog.cellsOf 9 = 1 := by kernel_rfl
  obtain ⟨xs, m, _, _, _, hlen, hf⟩ := DataW.trod_struct Try.underlying31 h
  match y, hl with
  | [v0, v1, v2], _ =>
    match xs, hlen with
    | [y0, y1, y2], _ =>
      have g0 := hf 0 _ rfl
      have g1 := hf 1 _ rfl
      have g2 := hf 2 _ rfl
      simp [ci] at g0 g2
      simp [cs] at g1
      obtain ⟨k0, e0, _, w0⟩ := DataW.trod_int Try.underlying3 g0
      obtain ⟨k1, e1, _, w1⟩ := DataW.trod_string Try.underlying9 g1
      obtain ⟨k2, e2, _, w2⟩ := DataW.trod_int Try.underlying3 g2
      simp at e0 e1 e2
      subst e0 e1 e2
      exact ⟨⟨k0, k1, k2⟩, rfl, ⟨i64_wf w0, w1, i64_wf w2⟩⟩
theorem shapes : ∀ (xs : List (List Value)), (∀ y ∈ xs, ∃ o : Op9, y = o.cells ∧ o.ok) → ∃ os : List Op9, xs = os.map Op9.cells ∧ ∀ o ∈ os, o.ok
  | [], _ => ⟨[], rfl, fun o ho => by cases ho⟩
  | x :: xs, h => by
    obtain ⟨o, ho, hk⟩ := h x List.mem_cons_self
    obtain ⟨os, hs, hks⟩ := shapes xs fun y hy => h y (List.mem_cons_of_mem _ hy)
    refine ⟨o :: os, by rw [ho, hs]; rfl, fun p hp => ?_⟩
    rcases List.mem_cons.1 hp with rfl | hp
    · exact hk
    · exact hks p hp
theorem open_ops {H : Type} {enc : TypeId × Value → H} {w : World} {base : Nat} {spare : Nat → Bool} {held : Bool} {fuel : Nat} {a : Option Addr} {len cap : Nat} {x : DataW H × List MemPlace}
    (h : DataW.trod enc Try.prog w base spare held fuel 23 [.slice a len cap] = some x) : ∃ os, OpsAt w a len cap os := by
  have ce : Try.prog.cellsOf 31 = 3 := by kernel_rfl
  have hm : len ≤ maxLen := by
    rcases open_slice Try.underlying23 h with ⟨hcs, _⟩ | ⟨ad, l, c, m, n, D, Pl, hcs, _, hl, hm, _⟩
    · cases hcs
      exact Nat.zero_le _
    · cases hcs
      exact Nat.le_trans hl hm
  obtain ⟨xs, h1, h2⟩ := open_rows Try.underlying23 ce (by decide) h
  obtain ⟨os, rfl, h3⟩ := shapes xs fun y hy => by
    obtain ⟨hl, n, z, hz⟩ := h2 y hy
    exact op_shape hl hz
  exact ⟨os, ⟨h1, h3⟩, hm⟩
end Go.Proofs.Ytncblaofgdcfmaa
