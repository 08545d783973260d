/- A slice of pairs (a number, a text) that came in, opened. Conditions: none. -/
import Derived.Test.YtidnjcoljfccdaaOps2
import Derived.ProofKit
import Derived.OpenShut
import Derived.Deep.SlicePairs
namespace Go.Proofs.Ytidnjcoljfccdaa
open Go.RowKit Go.ChangeShapes Go.WideShapes Go.Deep

theorem open_ops {H : Type} {enc : TypeId × Value → H} {w : World} {base : Nat} {spare : Nat → Bool} {held : Bool} {fuel : Nat} {a : Option Addr} {len cap : Nat} {x : DataW H × List MemPlace}
    (h : DataW.trod enc Try.prog w base spare held fuel 23 [.slice a len cap] = some x) : ∃ os, OpsAt w a len cap os := by
  rcases open_slice_pairs Try.underlying23 Try.underlying33 (by kernel_rfl) rfl rfl (by kernel_rfl) (by kernel_rfl) h with ⟨hcs, _⟩ | ⟨ad, l, c, m, n, V0, V1, D0, D1, P0, P1, hcs, _, hl, hm, hmm, _, hx⟩
  · cases hcs
    exact ⟨[], .inl ⟨rfl, rfl⟩⟩
  · cases hcs
    by_cases h0 : len = 0
    · exact ⟨[], .inl ⟨h0, rfl⟩⟩
    · have hlm : len ≤ m := by rw [hmm]; split <;> omega
      have each : ∀ i, i < m → ∃ q : Int × ByteArray, V0 i = .int .i64 q.1 ∧ V1 i = .string q.2 ∧ (Lit.int .i64 q.1).wf = true := by
        intro i hi
        obtain ⟨_, _, h1, h2⟩ := hx i hi
        obtain ⟨k, e1, _, hk⟩ := DataW.trod_int Try.underlying3 h1
        obtain ⟨s, e2, _, _⟩ := DataW.trod_string Try.underlying9 h2
        exact ⟨(k, s), by simpa using e1, by simpa using e2, hk⟩
      obtain ⟨q, hq⟩ := choose_lt each
      obtain ⟨b, off, spot⟩ := ad
      have hc := (hx 0 (by omega)).1
      have hspot : spot = none := by simpa [Addr.add] using World.cell?_spot hc
      subst hspot
      have hadd : ∀ i, (⟨b, off, none⟩ : Addr).add i = ⟨b, off + i, none⟩ := fun i => by unfold Addr.add; split <;> simp_all
      refine ⟨(List.range len).map q, .inr ⟨b, off, rfl, by omega, hl, by simp, ?_, ?_, ?_, ?_⟩⟩
      · intro o ho
        obtain ⟨i, hi, rfl⟩ := List.mem_map.1 ho
        exact (hq i (by have := List.mem_range.1 hi; omega)).2.2
      · intro i hi
        have hi' : i < len := by simpa using hi
        have h1 := (hx i (by omega)).1
        rw [hadd, (hq i (by omega)).1] at h1
        simpa using h1
      · intro i hi
        have hi' : i < len := by simpa using hi
        have h1 := (hx i (by omega)).2.1
        rw [hadd, (hq i (by omega)).2.1] at h1
        simpa [Nat.add_assoc] using h1
      · rw [hadd] at hc
        exact block_lt_of_cell hc
end Go.Proofs.Ytidnjcoljfccdaa
