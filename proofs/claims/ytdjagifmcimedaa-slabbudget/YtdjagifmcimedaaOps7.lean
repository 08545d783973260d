/- Slices of calls of layer 7 (three numbers, a truth, a chunk) that came in, opened. Conditions: none. -/
import Derived.Test.YtdjagifmcimedaaRowsOpen
namespace Go.Proofs.Ytdjagifmcimedaa
open Go.RowKit Go.ChangeShapes Go.WideShapes Go.Deep

structure Op7 where
  kd : Int
  sz : Int
  n : Int
  raw : Bool
  cls : Int
  no : Int
def Op7.cells (o : Op7) : List Value := [.int .i64 o.kd, .int .i64 o.sz, .int .i64 o.n, .bool o.raw, .int .i64 o.cls, .int .i64 o.no]
structure Op7.ok (o : Op7) : Prop where
  kd : I64 o.kd
  sz : I64 o.sz
  n : I64 o.n
  cls : I64 o.cls
  no : I64 o.no
def OpsAt (w : World) (a : Option Addr) (len cap : Nat) (os : List Op7) : Prop := RowsAt w a len cap 6 (os.map Op7.cells) ∧ ∀ o ∈ os, o.ok
theorem OpsAt.on {w w' : World} {a : Option Addr} {len cap : Nat} {os : List Op7} (h : OpsAt w a len cap os) (hb : Below w.heap.size w w') : OpsAt w' a len cap os := ⟨h.1.on hb, h.2⟩
theorem OpsAt.len_ {w : World} {a : Option Addr} {len cap : Nat} {os : List Op7} (h : OpsAt w a len cap os) : os.length = len := by
  have := h.1.len_
  rwa [List.length_map] at this
/-- One call's cells. -/
structure OpCell (w : World) (c off k : Nat) (o : Op7) : Prop where
  old : c < w.heap.size
  all : ∀ (j : Nat) (v : Value), o.cells[j]? = some v → w.cell? ⟨c, off + k * 6 + j, none⟩ = some v
theorem OpCell.on {w w' : World} {c off k n : Nat} {o : Op7} (h : OpCell w c off k o) (hn : w.heap.size ≤ n) (hb : Below n w w') : OpCell w' c off k o :=
  ⟨Nat.lt_of_lt_of_le h.old hb.size, fun j v hv => (hb.cell (p := ⟨c, off + k * 6 + j, none⟩) (Nat.lt_of_lt_of_le h.old hn)).trans (h.all j v hv)⟩
theorem OpCell.kd {w : World} {c off k : Nat} {o : Op7} (h : OpCell w c off k o) : w.cell? ⟨c, off + k * 6, none⟩ = some (.int .i64 o.kd) := h.all 0 _ rfl
theorem OpCell.sz {w : World} {c off k : Nat} {o : Op7} (h : OpCell w c off k o) : w.cell? ⟨c, off + k * 6 + 1, none⟩ = some (.int .i64 o.sz) := h.all 1 _ rfl
theorem OpCell.n {w : World} {c off k : Nat} {o : Op7} (h : OpCell w c off k o) : w.cell? ⟨c, off + k * 6 + 2, none⟩ = some (.int .i64 o.n) := h.all 2 _ rfl
theorem OpCell.raw {w : World} {c off k : Nat} {o : Op7} (h : OpCell w c off k o) : w.cell? ⟨c, off + k * 6 + 3, none⟩ = some (.bool o.raw) := h.all 3 _ rfl
theorem OpCell.cls {w : World} {c off k : Nat} {o : Op7} (h : OpCell w c off k o) : w.cell? ⟨c, off + k * 6 + 4, none⟩ = some (.int .i64 o.cls) := h.all 4 _ rfl
theorem OpCell.no {w : World} {c off k : Nat} {o : Op7} (h : OpCell w c off k o) : w.cell? ⟨c, off + k * 6 + 5, none⟩ = some (.int .i64 o.no) := h.all 5 _ rfl
theorem OpsAt.at {w : World} {a : Option Addr} {len cap : Nat} {os : List Op7} (h : OpsAt w a len cap os) (i : Nat) (hi : i < os.length) : ∃ b off, a = some ⟨b, off, none⟩ ∧ OpCell w b off i os[i] ∧ os[i].ok := by
  obtain ⟨b, off, h1, h2, _, h4⟩ := h.1.at i os[i].cells (by rw [List.getElem?_map, List.getElem?_eq_getElem hi]; rfl)
  exact ⟨b, off, h1, ⟨h2, h4⟩, h.2 _ (List.getElem_mem hi)⟩

theorem op_shape {H : Type} {enc : TypeId × Value → H} {w : World} {base : Nat} {spare : Nat → Bool} {held : Bool} {n : Nat} {y : List Value} {z : DataW H × List MemPlace} (hl : y.length = 6)
    (h : DataW.trod enc Try.prog w base spare held n 37 y = some z) : ∃ o : Op7, y = o.cells ∧ o.ok := by
  have ci : Try.prog.cellsOf 3 = 1 := by kernel_rfl
  have cb : Try.prog.cellsOf 4 = 1 := by kernel_rfl
  have cc : Try.prog.cellsOf 35 = 2 := by kernel_rfl
  obtain ⟨xs, m, _, _, _, hlen, hf⟩ := DataW.trod_struct Try.underlying37 h
  match y, hl with
  | [v0, v1, v2, v3, v4, v5], _ =>
    match xs, hlen with
    | [y0, y1, y2, y3, y4], _ =>
      have g0 := hf 0 _ rfl
      have g1 := hf 1 _ rfl
      have g2 := hf 2 _ rfl
      have g3 := hf 3 _ rfl
      have g4 := hf 4 _ rfl
      simp [ci] at g0 g1 g2
      simp [cb] at g3
      simp [cc] at g4
      obtain ⟨k0, e0, _, w0⟩ := DataW.trod_int Try.underlying3 g0
      obtain ⟨k1, e1, _, w1⟩ := DataW.trod_int Try.underlying3 g1
      obtain ⟨k2, e2, _, w2⟩ := DataW.trod_int Try.underlying3 g2
      obtain ⟨k3, e3, _⟩ := DataW.trod_bool Try.underlying4 g3
      obtain ⟨u0, u1, p, _, _, q0, q1⟩ := trod_struct2 Try.underlying35 g4
      simp [ci] at q0 q1
      obtain ⟨k4, e4, _, w4⟩ := DataW.trod_int Try.underlying3 q0
      obtain ⟨k5, e5, _, w5⟩ := DataW.trod_int Try.underlying3 q1
      simp at e0 e1 e2 e3 e4 e5
      subst e0 e1 e2 e3 e4 e5
      exact ⟨⟨k0, k1, k2, k3, k4, k5⟩, rfl, ⟨i64_wf w0, i64_wf w1, i64_wf w2, i64_wf w4, i64_wf w5⟩⟩
theorem shapes : ∀ (xs : List (List Value)), (∀ y ∈ xs, ∃ o : Op7, y = o.cells ∧ o.ok) → ∃ os : List Op7, xs = os.map Op7.cells ∧ ∀ o ∈ os, o.ok
  | [], _ => ⟨[], rfl, fun o ho => by cases ho⟩
  | x :: xs, h => by
    obtain ⟨o, ho, hk⟩ := h x List.mem_cons_self
    obtain ⟨os, hs, hks⟩ := shapes xs fun y hy => h y (List.mem_cons_of_mem _ hy)
    refine ⟨o :: os, by rw [ho, hs]; rfl, fun p hp => ?_⟩
    rcases List.mem_cons.1 hp with rfl | hp
    · exact hk
    · exact hks p hp
theorem open_ops {H : Type} {enc : TypeId × Value → H} {w : World} {base : Nat} {spare : Nat → Bool} {held : Bool} {fuel : Nat} {a : Option Addr} {len cap : Nat} {x : DataW H × List MemPlace}
    (h : DataW.trod enc Try.prog w base spare held fuel 28 [.slice a len cap] = some x) : ∃ os, OpsAt w a len cap os := by
  have ce : Try.prog.cellsOf 37 = 6 := by kernel_rfl
  obtain ⟨xs, h1, h2⟩ := open_rows Try.underlying28 ce (by decide) h
  obtain ⟨os, rfl, h3⟩ := shapes xs fun y hy => by
    obtain ⟨hl, n, z, hz⟩ := h2 y hy
    exact op_shape hl hz
  exact ⟨os, h1, h3⟩
end Go.Proofs.Ytdjagifmcimedaa
