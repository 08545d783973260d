/- A slice of triples (two numbers, a text) that came in, opened. Conditions: none. -/
import Derived.Test.YtpjmhiokhoplmaaOps3
import Derived.ProofKit
import Derived.OpenShut
import Derived.Deep.SlicePairs
import Derived.Deep.Strs
namespace Go.Proofs.Ytpjmhiokhoplmaa
open Go.RowKit Go.ChangeShapes Go.WideShapes Go.Deep

theorem open_ops {H : Type} {enc : TypeId × Value → H} {w : World} {base : Nat} {spare : Nat → Bool} {held : Bool} {fuel : Nat} {a : Option Addr} {len cap : Nat} {x : DataW H × List MemPlace}
    (h : DataW.trod enc Try.prog w base spare held fuel 23 [.slice a len cap] = some x) : ∃ os, OpsAt w a len cap os := by
  have ce : Try.prog.cellsOf 31 = 3 := by kernel_rfl
  have ci : Try.prog.cellsOf 3 = 1 := by kernel_rfl
  have cs1 : Try.prog.cellsOf 9 = 1 := by kernel_rfl
  rcases open_slice Try.underlying23 h with ⟨hcs, _⟩ | ⟨ad, l, c, m, n, D, Pl, hcs, _, hl, hm, hmm, _, hx⟩
  · cases hcs
    exact ⟨[], .inl ⟨rfl, rfl⟩⟩
  · cases hcs
    by_cases h0 : len = 0
    · exact ⟨[], .inl ⟨h0, rfl⟩⟩
    · have hlm : len ≤ m := by rw [hmm]; split <;> omega
      have each : ∀ i, i < m → ∃ q : Op, w.cell? (ad.add (i * 3)) = some (.int .i64 q.1) ∧ w.cell? (ad.add (i * 3 + 1)) = some (.int .i64 q.2.1) ∧ w.cell? (ad.add (i * 3 + 2)) = some (.string q.2.2) ∧ (Lit.int .i64 q.1).wf = true ∧ (Lit.int .i64 q.2.1).wf = true := by
        intro i hi
        obtain ⟨cs', h1, h2⟩ := hx i hi
        rw [ce] at h1
        obtain ⟨_, hlen, hcell⟩ := World.cells?_some h1
        obtain ⟨y0, y1, y2, k, _, _, g0, g1, g2⟩ := trod_struct3 Try.underlying31 h2
        match cs', hlen with
        | [v0, v1, v2], _ =>
          simp [ci] at g0 g1
          simp [cs1] at g2
          obtain ⟨k0, e0, _, w0⟩ := DataW.trod_int Try.underlying3 g0
          obtain ⟨k1, e1, _, w1⟩ := DataW.trod_int Try.underlying3 g1
          obtain ⟨s, e2, _, _⟩ := DataW.trod_string Try.underlying9 g2
          have c0 := hcell 0 (by omega)
          have c1 := hcell 1 (by omega)
          have c2 := hcell 2 (by omega)
          rw [add_add] at c0 c1 c2
          simp at e0 e1 e2
          subst e0 e1 e2
          exact ⟨(k0, k1, s), by simpa using c0, by simpa using c1, by simpa using c2, w0, w1⟩
      obtain ⟨q, hq⟩ := choose_lt each
      obtain ⟨b, off, spot⟩ := ad
      have hc := (hq 0 (by omega)).1
      have hspot : spot = none := by simpa [Addr.add] using World.cell?_spot hc
      subst hspot
      have hadd : ∀ i, (⟨b, off, none⟩ : Addr).add i = ⟨b, off + i, none⟩ := fun i => by unfold Addr.add; split <;> simp_all
      refine ⟨(List.range len).map q, .inr ⟨b, off, rfl, by omega, hl, by simp, ?_, ?_, ?_, ?_, ?_⟩⟩
      · intro o ho
        obtain ⟨i, hi, rfl⟩ := List.mem_map.1 ho
        exact (hq i (by have := List.mem_range.1 hi; omega)).2.2.2
      · intro i hi
        have hi' : i < len := by simpa using hi
        have h1 := (hq i (by omega)).1
        rw [hadd] at h1
        simpa using h1
      · intro i hi
        have hi' : i < len := by simpa using hi
        have h1 := (hq i (by omega)).2.1
        rw [hadd] at h1
        simpa [Nat.add_assoc] using h1
      · intro i hi
        have hi' : i < len := by simpa using hi
        have h1 := (hq i (by omega)).2.2.1
        rw [hadd] at h1
        simpa [Nat.add_assoc] using h1
      · rw [hadd] at hc
        exact block_lt_of_cell hc
end Go.Proofs.Ytpjmhiokhoplmaa
