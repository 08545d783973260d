/- Items and envs that came in, opened. Conditions: none. -/
import Derived.Test.YtdfckiendingcaaItemM
namespace Go.Proofs.Ytdfckiendingcaa
open Go.RowKit Go.ChangeShapes Go.WideShapes Go.Deep

theorem u64_of {a : Int} (h : (Lit.int .u64 a).wf = true) : U64 a := u64_wf h
theorem open_env {H : Type} {enc : TypeId × Value → H} {w : World} {base : Nat} {spare : Nat → Bool} {held : Bool} {n : Nat} {cs : Array Value} {z : DataW H × List MemPlace} (hl : cs.size = Try.prog.cellsOf 34)
    (h : DataW.trod enc Try.prog w base spare held n 34 cs.toList = some z) : ∃ e : En, cs = enC e ∧ e.ok := by
  have ci : Try.prog.cellsOf 3 = 1 := by kernel_rfl
  have cu : Try.prog.cellsOf 24 = 1 := by kernel_rfl
  have ce : Try.prog.cellsOf 34 = 4 := by kernel_rfl
  have hl' : cs.toList.length = 4 := by rw [Array.length_toList, hl, ce]
  obtain ⟨xs, m, _, _, _, hlen, hf⟩ := DataW.trod_struct Try.underlying34 h
  obtain ⟨y, hy⟩ : ∃ y, cs.toList = y := ⟨_, rfl⟩
  rw [hy] at hl' hf
  have hcs : cs = y.toArray := by rw [← hy]
  match y, hl' with
  | [v0, v1, v2, v3], _ =>
    match xs, hlen with
    | [y0, y1, y2, y3], _ =>
      have g0 := hf 0 _ rfl
      have g1 := hf 1 _ rfl
      have g2 := hf 2 _ rfl
      have g3 := hf 3 _ rfl
      simp [ci, cu] at g0 g1 g2 g3
      obtain ⟨k0, e0, _, w0⟩ := DataW.trod_int Try.underlying3 g0
      obtain ⟨k1, e1, _, w1⟩ := DataW.trod_int Try.underlying24 g1
      obtain ⟨k2, e2, _, w2⟩ := DataW.trod_int Try.underlying3 g2
      obtain ⟨k3, e3, _, w3⟩ := DataW.trod_int Try.underlying24 g3
      simp at e0 e1 e2 e3
      subst e0 e1 e2 e3
      exact ⟨⟨k0, k1, k2, k3⟩, hcs, ⟨i64_wf w0, u64_of w1, i64_wf w2, u64_of w3⟩⟩
theorem open_item {H : Type} {enc : TypeId × Value → H} {w : World} {base : Nat} {spare : Nat → Bool} {held : Bool} {n : Nat} {cs : Array Value} {z : DataW H × List MemPlace} (hl : cs.size = Try.prog.cellsOf 26)
    (h : DataW.trod enc Try.prog w base spare held n 26 cs.toList = some z) : ∃ i : It, cs = itC i ∧ i.ok := by
  have ci : Try.prog.cellsOf 3 = 1 := by kernel_rfl
  have cu : Try.prog.cellsOf 24 = 1 := by kernel_rfl
  have c3 : Try.prog.cellsOf 23 = 1 := by kernel_rfl
  have cb : Try.prog.cellsOf 4 = 1 := by kernel_rfl
  have ct : Try.prog.cellsOf 9 = 1 := by kernel_rfl
  have cl : Try.prog.cellsOf 22 = 1 := by kernel_rfl
  have ce : Try.prog.cellsOf 26 = 10 := by kernel_rfl
  have hl' : cs.toList.length = 10 := by rw [Array.length_toList, hl, ce]
  obtain ⟨xs, m, _, _, _, hlen, hf⟩ := DataW.trod_struct Try.underlying26 h
  obtain ⟨y, hy⟩ : ∃ y, cs.toList = y := ⟨_, rfl⟩
  rw [hy] at hl' hf
  have hcs : cs = y.toArray := by rw [← hy]
  match y, hl' with
  | [v0, v1, v2, v3, v4, v5, v6, v7, v8, v9], _ =>
    match xs, hlen with
    | [y0, y1, y2, y3, y4, y5, y6, y7, y8, y9], _ =>
      have g0 := hf 0 _ rfl
      have g1 := hf 1 _ rfl
      have g2 := hf 2 _ rfl
      have g3 := hf 3 _ rfl
      have g4 := hf 4 _ rfl
      have g5 := hf 5 _ rfl
      have g6 := hf 6 _ rfl
      have g7 := hf 7 _ rfl
      have g8 := hf 8 _ rfl
      have g9 := hf 9 _ rfl
      simp [ci, cu, c3, cb, ct, cl] at g0 g1 g2 g3 g4 g5 g6 g7 g8 g9
      obtain ⟨k0, e0, _, w0⟩ := DataW.trod_string Try.underlying9 g0
      obtain ⟨a1, l1, c1, e1, w1⟩ : ∃ a l c, v1 = .slice a l c ∧ l ≤ maxLen := by
        rcases open_slice Try.underlying22 g1 with ⟨hc, _⟩ | ⟨ad, l, c, m, n, D, Pl, hc, _, hl, hm, _⟩
        · simp at hc
          exact ⟨_, _, _, hc, Nat.zero_le _⟩
        · simp at hc
          exact ⟨_, _, _, hc, Nat.le_trans hl hm⟩
      obtain ⟨k2, e2, _, w2⟩ := DataW.trod_int Try.underlying23 g2
      obtain ⟨k3, e3, _, w3⟩ := DataW.trod_int Try.underlying3 g3
      obtain ⟨k4, e4, _, w4⟩ := DataW.trod_int Try.underlying24 g4
      obtain ⟨k5, e5, _, w5⟩ := DataW.trod_int Try.underlying3 g5
      obtain ⟨k6, e6, _, w6⟩ := DataW.trod_int Try.underlying24 g6
      obtain ⟨k7, e7, _⟩ := DataW.trod_bool Try.underlying4 g7
      obtain ⟨k8, e8, _⟩ := DataW.trod_bool Try.underlying4 g8
      obtain ⟨k9, e9, _⟩ := DataW.trod_bool Try.underlying4 g9
      simp at e0 e2 e3 e4 e5 e6 e7 e8 e9
      subst e0 e1 e2 e3 e4 e5 e6 e7 e8 e9
      exact ⟨⟨k0, a1, l1, c1, k2, k3, k4, k5, k6, k7, k8, k9⟩, hcs, ⟨w0, w1, i64_wf w3, i64_wf w5, u64_of w6⟩⟩
end Go.Proofs.Ytdfckiendingcaa
