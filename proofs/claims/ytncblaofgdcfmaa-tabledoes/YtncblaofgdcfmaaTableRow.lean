/- Rows of entries, each a text and a number, and rows of such rows, in memory. Conditions: none. -/
import Derived.Test.YtncblaofgdcfmaaTableCon
import Derived.Test.YtncblaofgdcfmaaTableN
import Derived.Test.YtncblaofgdcfmaaPartsF
import Derived.Lib.AppendZeros
namespace Go.Proofs.Ytncblaofgdcfmaa
open Go.RowKit

theorem info_entry : (Try.prog.info? 63).map (fun i => (i.zero, i.size, i.bytes)) = some (some (.agg #[.string ⟨#[]⟩, .int .i64 0]), 2, 24) := by kernel_rfl
theorem info_bucket : (Try.prog.info? 61).map (fun i => (i.zero, i.size, i.bytes)) = some (some (.slice none 0 0), 1, 24) := by kernel_rfl
/-- Entries as cells. -/
def enV (xs : List Kv) : List Value := xs.flatMap fun p => [.string p.1, .int .i64 p.2]
theorem enV_app (xs ys : List Kv) : enV (xs ++ ys) = enV xs ++ enV ys := by simp [enV]
theorem enV_one (p : Kv) : enV [p] = [.string p.1, .int .i64 p.2] := by simp [enV]
theorem enV_len (xs : List Kv) : (enV xs).length = xs.length * 2 := by
  induction xs with
  | nil => rfl
  | cons p l ih =>
    show (enV l).length + 1 + 1 = _
    rw [ih, List.length_cons]
    omega
theorem enV_at : ∀ {xs : List Kv} {i : Nat} {p : Kv}, xs[i]? = some p → (enV xs)[i * 2]? = some (.string p.1) ∧ (enV xs)[i * 2 + 1]? = some (.int .i64 p.2)
  | [], i, p, h => by simp at h
  | a :: l, 0, p, h => by
    simp at h
    subst h
    exact ⟨rfl, rfl⟩
  | a :: l, i + 1, p, h => by
    have h : l[i]? = some p := by simpa using h
    have := enV_at h
    have e1 : (i + 1) * 2 = i * 2 + 2 := by omega
    rw [e1]
    exact this
theorem enV_cell (l : List Kv) : ∀ u ∈ enV l, u.oneCell' = true := by
  intro u hu
  unfold enV at hu
  rw [List.mem_flatMap] at hu
  obtain ⟨p, _, hu⟩ := hu
  simp at hu
  rcases hu with rfl | rfl <;> rfl
theorem enV_take (l : List Kv) (k : Nat) : (enV l).take (k * 2) = enV (l.take k) := by
  by_cases h : k ≤ l.length
  · have e : l = l.take k ++ l.drop k := (List.take_append_drop k l).symm
    have h2 : (enV (l.take k)).length = k * 2 := by rw [enV_len, List.length_take, Nat.min_eq_left h]
    rw (occs := [1]) [e]
    rw [enV_app, ← h2, List.take_left']
    rfl
  · rw [List.take_of_length_le (l := l) (by omega), List.take_of_length_le (l := enV l) (by rw [enV_len]; omega)]
theorem enV_drop (l : List Kv) (k : Nat) (h : k ≤ l.length) : (enV l).drop (k * 2) = enV (l.drop k) := by
  have e : l = l.take k ++ l.drop k := (List.take_append_drop k l).symm
  have h2 : (enV (l.take k)).length = k * 2 := by rw [enV_len, List.length_take, Nat.min_eq_left h]
  rw (occs := [1]) [e]
  rw [enV_app, ← h2, List.drop_left']
  rfl
abbrev rowE (w : World) (v : Value) (l : List Kv) : Prop := w.ownsRow 0 63 2 v l.length (enV l)
/-- A bucket. -/
abbrev enP (v : Value) (l : List Kv) : Part := rowP 0 63 2 v l.length (enV l)
/-- The entry at a place of a row. -/
theorem entry_at {w : World} {n cap : Nat} {pa : Option Addr} {l : List Kv} (h : w.ownsRow 0 63 2 (.slice pa n cap) n (enV l)) {i : Nat} {p : Kv} (hi : l[i]? = some p) : ∃ g, pa = some ⟨g, 0, none⟩ ∧ w.cell? ⟨g, i * 2, none⟩ = some (.string p.1) ∧ w.cell? ⟨g, i * 2 + 1, none⟩ = some (.int .i64 p.2) := by
  have hl := (List.getElem?_eq_some_iff.1 hi).1
  have hn : l.length * 2 = n * 2 := (enV_len l).symm.trans h.1
  obtain ⟨g, cap', e⟩ := own_form h (by omega)
  cases e
  obtain ⟨k1, k2⟩ := enV_at hi
  exact ⟨g, rfl, (h.cellAt _ (by omega)).trans k1, (h.cellAt _ (by omega)).trans k2⟩
/-- A row's first elements. -/
theorem row_take {w : World} {e : TypeId} {size g n cap k : Nat} {xs : List Value} (h : w.ownsRow 0 e size (.slice (some ⟨g, 0, none⟩) n cap) n xs) (hk : k ≤ n) : w.ownsRow 0 e size (.slice (some ⟨g, 0, none⟩) k cap) k (xs.take (k * size)) := by
  have hle : k * size ≤ n * size := Nat.mul_le_mul_right _ hk
  refine ⟨by rw [List.length_take, h.1]; omega, ?_⟩
  rcases h.2 with ⟨h', _⟩ | ⟨g', cap', cur, h', hb, hg, hnc, hcm, hcs, htake⟩
  · simp at h'
  · simp only [Value.slice.injEq, Option.some.injEq, Addr.mk.injEq, and_true, true_and] at h'
    obtain ⟨rfl, rfl⟩ := h'
    exact .inr ⟨g, cap, cur, rfl, hb, hg, Nat.le_trans hk hnc, hcm, hcs, by rw [← htake, List.take_take, Nat.min_eq_left hle]⟩
/-- A store behind a row's elements, within its room. -/
theorem row_behind {w : World} {e : TypeId} {size g n cap j : Nat} {xs : List Value} {u : Value} (h : w.ownsRow 0 e size (.slice (some ⟨g, 0, none⟩) n cap) n xs) (hj : n * size ≤ j) : (w.setCell ⟨g, j, none⟩ u).ownsRow 0 e size (.slice (some ⟨g, 0, none⟩) n cap) n xs := by
  have := (h.stored j u).1
  rwa [List.set_eq_of_length_le (by rw [h.1]; exact hj)] at this
/-- Slices of a row of them: which they are. -/
def refs (n : Nat) (f : Nat → Value) : List Value := (List.range n).map f
theorem refs_len (n : Nat) (f : Nat → Value) : (refs n f).length = n := by simp [refs]
theorem refs_at {n i : Nat} (f : Nat → Value) (h : i < n) : (refs n f)[i]? = some (f i) := by simp [refs, h]
theorem refs_set {n i : Nat} (f : Nat → Value) (u : Value) : (refs n f).set i u = refs n (updF f i u) := by
  apply List.ext_getElem?
  intro j
  rw [List.getElem?_set]
  by_cases hj : j < n
  · rw [refs_at _ hj, refs_at _ hj, refs_len]
    by_cases e : i = j
    · subst e
      rw [if_pos rfl, if_pos hj, updF_same]
    · rw [if_neg e, updF_other _ _ (Ne.symm e)]
  · have h1 : (refs n f)[j]? = none := List.getElem?_eq_none (by rw [refs_len]; omega)
    have h2 : (refs n (updF f i u))[j]? = none := List.getElem?_eq_none (by rw [refs_len]; omega)
    rw [h1, h2, refs_len]
    split
    · rw [if_neg (by omega)]
    · rfl
theorem refs_take (n k : Nat) (f : Nat → Value) (h : k ≤ n) : (refs n f).take k = refs k f := by
  unfold refs
  rw [← List.map_take, List.take_range, Nat.min_eq_left h]
/-- A row of buckets. -/
abbrev arP (v : Value) (n : Nat) (f : Nat → Value) : Part := rowP 0 61 1 v n (refs n f)
theorem ar_cell {w : World} {g n cap i : Nat} {f : Nat → Value} (h : (arP (.slice (some ⟨g, 0, none⟩) n cap) n f).q w) (hi : i < n) : w.cell? ⟨g, i, none⟩ = some (f i) ∧ w.frozen? ⟨g, i, none⟩ = false :=
  ⟨(World.ownsRow.cellAt h i (by omega)).trans (refs_at f hi), World.ownsRow.frozenAt h i⟩
/-- A cell of a row of buckets is stored. -/
theorem LawF.arSet {F : Nat → Prop} {w0 w : World} {R : Part} {g n cap i : Nat} {f : Nat → Value} (H : LawF F w0 w ((arP (.slice (some ⟨g, 0, none⟩) n cap) n f).and R)) (u : Value) : LawF F w0 (w.setCell ⟨g, i, none⟩ u) ((arP (.slice (some ⟨g, 0, none⟩) n cap) n (updF f i u)).and R) := by
  obtain ⟨h1, h2⟩ := World.ownsRow.stored H.q.1 i u
  rw [refs_set] at h1
  exact H.app0 h1 h2 (.inl rfl)
/-- All of a row of entries is appended to one. -/
theorem run_append_en (w : World) (base : Nat) (ty : TypeId) {v x : Value} {n : Nat} {xs : List Value} {ys : List Kv} (hown : w.ownsRow base 63 2 v n xs) (hx : rowE w x ys) (hn : n + ys.length ≤ 100000) (hb : base ≤ w.heap.size) :
    ∃ v' w', (Builtin.append_ #[61, 61] ty #[v, x]).run Try.prog w = .ok v' w' ∧ w'.ownsRow base 63 2 v' (n + ys.length) (xs ++ enV ys) ∧ w.grownBy w' v.ownBlock ∧ (v'.ownBlock = v.ownBlock ∨ v'.ownBlock = some w.heap.size) := by
  obtain ⟨i0, hi, hz0, hz1, hz2⟩ := info_parts info_entry
  rcases hx.2 with ⟨rfl, h0⟩ | ⟨g, cap, cur, rfl, _⟩
  · have hy : ys = [] := List.length_eq_zero_iff.1 h0
    subst hy
    refine ⟨v, w, run_append_owned_none w base 61 ty 63 i0 2 Try.underlying61 hi v n xs hown, ?_, gr_refl _ _, .inl rfl⟩
    simpa [enV] using hown
  · obtain ⟨v', w', h1, h2, h3, _, h5⟩ := run_append_own_at (P := Try.prog) w base 61 ty 63 i0 (.agg #[.string ⟨#[]⟩, .int .i64 0]) 2 24 Try.underlying61 hi hz0 hz1 hz2 rfl (by decide) v n xs hown ⟨g, 0, none⟩ ys.length cap (enV ys) (enV_len ys) (hx.cells rfl) (enV_cell ys) (by unfold maxLen; omega) (by omega) hb
    exact ⟨v', w', h1, h2, h3, h5⟩
end Go.Proofs.Ytncblaofgdcfmaa
