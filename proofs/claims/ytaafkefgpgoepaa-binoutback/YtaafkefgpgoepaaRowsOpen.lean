/- Slices of structs of any size that came in, opened: each element's cells, in memory. Conditions: the element's type takes at least one cell. -/
import Derived.Test.YtaafkefgpgoepaaG00Joined
import Derived.ProofKit
import Derived.OpenShut
import Derived.Deep.SlicePairs
import Derived.Deep.Strs
namespace Go.Proofs.Ytaafkefgpgoepaa
open Go.RowKit Go.ChangeShapes Go.WideShapes Go.Deep

/-- A whole number of the program. -/
def I64 (a : Int) : Prop := -9223372036854775808 ≤ a ∧ a < 9223372036854775808
/-- Elements that lie in memory, each with its cells. -/
def RowsAt (w : World) (a : Option Addr) (len cap size : Nat) (xs : List (List Value)) : Prop :=
  (len = 0 ∧ xs = []) ∨ ∃ b off, a = some ⟨b, off, none⟩ ∧ len ≤ cap ∧ xs.length = len ∧ b < w.heap.size ∧
    ∀ (i j : Nat) (x : List Value) (v : Value), xs[i]? = some x → x[j]? = some v → w.cell? ⟨b, off + i * size + j, none⟩ = some v
theorem RowsAt.on {w w' : World} {a : Option Addr} {len cap size : Nat} {xs : List (List Value)} (h : RowsAt w a len cap size xs) (hb : Below w.heap.size w w') : RowsAt w' a len cap size xs := by
  rcases h with h | ⟨b, off, h1, h2, h3, h4, h5⟩
  · exact .inl h
  · exact .inr ⟨b, off, h1, h2, h3, Nat.lt_of_lt_of_le h4 hb.size, fun i j x v hx hv => (hb.cell (p := ⟨b, off + i * size + j, none⟩) h4).trans (h5 i j x v hx hv)⟩
theorem RowsAt.len_ {w : World} {a : Option Addr} {len cap size : Nat} {xs : List (List Value)} (h : RowsAt w a len cap size xs) : xs.length = len := by
  rcases h with ⟨h1, h2⟩ | ⟨b, off, h1, h2, h3, h4, h5⟩
  · rw [h1, h2]; rfl
  · exact h3
/-- Where there is one at i, the slice is written out, and its cells are. -/
theorem RowsAt.at {w : World} {a : Option Addr} {len cap size : Nat} {xs : List (List Value)} (h : RowsAt w a len cap size xs) (i : Nat) (x : List Value) (hi : xs[i]? = some x) :
    ∃ b off, a = some ⟨b, off, none⟩ ∧ b < w.heap.size ∧ len ≤ cap ∧ ∀ (j : Nat) (v : Value), x[j]? = some v → w.cell? ⟨b, off + i * size + j, none⟩ = some v := by
  rcases h with ⟨h1, h2⟩ | ⟨b, off, h1, h2, h3, h4, h5⟩
  · rw [h2] at hi; cases hi
  · exact ⟨b, off, h1, h4, h2, fun j v hv => h5 i j x v hi hv⟩
theorem open_rows {H : Type} {P : Program} {enc : TypeId × Value → H} {w : World} {base : Nat} {spare : Nat → Bool} {held : Bool} {fuel : Nat} {t e : TypeId} {size : Nat} {a : Option Addr} {len cap : Nat} {x : DataW H × List MemPlace}
    (hu : P.underlying t = some (.slice e)) (hsz : P.cellsOf e = size) (hpos : 0 < size) (h : DataW.trod enc P w base spare held fuel t [.slice a len cap] = some x) :
    ∃ xs : List (List Value), RowsAt w a len cap size xs ∧ ∀ y ∈ xs, y.length = size ∧ ∃ n z, DataW.trod enc P w base spare held n e y = some z := by
  rcases open_slice hu h with ⟨hcs, _⟩ | ⟨ad, l, c, m, n, D, Pl, hcs, _, hl, hm, hmm, _, hx⟩
  · cases hcs
    exact ⟨[], .inl ⟨rfl, rfl⟩, fun y hy => by cases hy⟩
  · cases hcs
    by_cases h0 : len = 0
    · exact ⟨[], .inl ⟨h0, rfl⟩, fun y hy => by cases hy⟩
    · have hlm : len ≤ m := by rw [hmm]; split <;> omega
      have each : ∀ i, i < m → ∃ q : List Value, q.length = size ∧ (∀ j, j < size → w.cell? (ad.add (i * size + j)) = q[j]?) ∧ ∃ n z, DataW.trod enc P w base spare held n e q = some z := by
        intro i hi
        obtain ⟨cs', h1, h2⟩ := hx i hi
        rw [hsz] at h1
        obtain ⟨_, hlen, hcell⟩ := World.cells?_some h1
        exact ⟨cs', hlen, fun j hj => by rw [← add_add]; exact hcell j hj, n, _, h2⟩
      obtain ⟨q, hq⟩ := choose_lt each
      obtain ⟨b, off, spot⟩ := ad
      have q0 := hq 0 (by omega)
      have hc : w.cell? ((⟨b, off, spot⟩ : Addr).add (0 * size + 0)) = some ((q 0)[0]'(by omega)) := by
        rw [q0.2.1 0 hpos]
        exact List.getElem?_eq_getElem (by omega)
      have hspot : spot = none := by simpa [Addr.add] using World.cell?_spot hc
      subst hspot
      have hadd : ∀ i, (⟨b, off, none⟩ : Addr).add i = ⟨b, off + i, none⟩ := fun i => by unfold Addr.add; split <;> simp_all
      refine ⟨(List.range len).map q, .inr ⟨b, off, rfl, hl, by simp, by rw [hadd] at hc; exact block_lt_of_cell hc, ?_⟩, ?_⟩
      · intro i j x v hi hv
        rw [List.getElem?_map] at hi
        by_cases hil : i < len
        · rw [List.getElem?_range hil] at hi
          simp only [Option.map_some, Option.some.injEq] at hi
          subst hi
          have hj : j < size := by
            have := (List.getElem?_eq_some_iff.1 hv).1
            rwa [(hq i (by omega)).1] at this
          have := (hq i (by omega)).2.1 j hj
          rw [hadd, hv] at this
          rw [Nat.add_assoc]
          exact this
        · rw [List.getElem?_eq_none (by simp; omega)] at hi
          cases hi
      · intro y hy
        obtain ⟨i, hi, rfl⟩ := List.mem_map.1 hy
        have := hq i (by have := List.mem_range.1 hi; omega)
        exact ⟨this.1, this.2.2⟩
end Go.Proofs.Ytaafkefgpgoepaa
