/- Two slices of texts held against each other by the statements' own helper. Conditions: none. -/
import Derived.Test.YtckjjfkfapfdaaaG02Joined
import Derived.Test.YtckjjfkfapfdaaaG00Joined
import Derived.Deep.QuietTactic
import Derived.BigQuiet
namespace Go.Proofs.Ytckjjfkfapfdaaa
open Go.RowKit Go.Shelf

/-- A slice that holds these texts. -/
def HoldsS (w : World) (v : Value) (xs : List ByteArray) : Prop :=
  ∃ a cap, v = .slice a xs.length cap ∧ (∀ i, i < xs.length → ∃ b off, a = some ⟨b, off, none⟩ ∧ w.cell? ⟨b, off + i, none⟩ = some (.string (xs.getD i ⟨#[]⟩))) ∧ (a = none → cap = 0)
theorem holds_own {w : World} {base : Nat} {v : Value} {xs : List ByteArray} (h : w.ownsRow base 9 1 v xs.length (strV xs)) : HoldsS w v xs := by
  rcases h.2 with ⟨rfl, h0⟩ | ⟨g, cap, cur, rfl, hg, hh, r⟩
  · exact ⟨none, 0, by rw [h0], fun i hi => by omega, fun _ => rfl⟩
  · refine ⟨some ⟨g, 0, none⟩, cap, rfl, fun i hi => ⟨g, 0, rfl, ?_⟩, fun e => by cases e⟩
    have h' : w.ownsRow base 9 1 (.slice (some ⟨g, 0, none⟩) xs.length cap) xs.length (strV xs) := h
    rw [Nat.zero_add, h'.cellAt i (by omega), strV, List.getElem?_map, List.getElem?_eq_getElem hi]
    simp [List.getD, List.getElem?_eq_getElem hi]
/-- Its first ones. -/
theorem holds_take {w : World} {a : Option Addr} {cap : Nat} {xs : List ByteArray} (h : HoldsS w (.slice a xs.length cap) xs) (k : Nat) (hk : k ≤ xs.length) : HoldsS w (.slice a k cap) (xs.take k) := by
  obtain ⟨a', cap', e, hc, hcn⟩ := h
  cases e
  have hl : (xs.take k).length = k := by rw [List.length_take]; omega
  refine ⟨a, cap, by rw [hl], fun i hi => ?_, hcn⟩
  rw [hl] at hi
  obtain ⟨b, off, h1, h2⟩ := hc i (by omega)
  refine ⟨b, off, h1, h2.trans ?_⟩
  simp [List.getD, hi]
theorem key_cell {w : World} {base n cap : Nat} {pa : Option Addr} {xs : List ByteArray} (h : w.ownsRow base 9 1 (.slice pa n cap) n (strV xs)) (k : Nat) (hk : k < xs.length) (hn : xs.length = n) : ∃ g, pa = some ⟨g, 0, none⟩ ∧ w.cell? ⟨g, k, none⟩ = some (.string xs[k]) := by
  obtain ⟨g, cap', e⟩ := own_form h (by omega)
  cases e
  refine ⟨g, rfl, ?_⟩
  rw [h.cellAt k (by omega), strV, List.getElem?_map, List.getElem?_eq_getElem hk]
  rfl
theorem key_cell' {w : World} {base n cap : Nat} {pa : Option Addr} {xs : List ByteArray} (h : w.ownsRow base 9 1 (.slice pa n cap) n (strV xs)) (k : Nat) (x : ByteArray) (hx : xs[k]? = some x) (hn : xs.length = n) : ∃ g, pa = some ⟨g, 0, none⟩ ∧ w.cell? ⟨g, k, none⟩ = some (.string x) := by
  obtain ⟨hk, e⟩ := List.getElem?_eq_some_iff.1 hx
  rw [← e]
  exact key_cell h k hk hn
theorem str_eq {x y : ByteArray} (h : x.toList = y.toList) : x = y := by
  rw [ByteArray.toList_eq, ByteArray.toList_eq] at h
  exact ByteArray.ext (Array.toList_inj.1 h)
theorem str_ne {x y : ByteArray} (h : x ≠ y) : (x.toList == y.toList) = false := beq_eq_false_iff_ne.2 fun e => h (str_eq e)
end Go.Proofs.Ytckjjfkfapfdaaa
