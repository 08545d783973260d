/- Two slices of texts held against each other by the statements' own helper. Conditions: none. -/
import Derived.Test.YtckjjfkfapfdaaaGreatG02Joined
import Derived.Test.YtckjjfkfapfdaaaGreatG00Joined
import Derived.Deep.QuietTactic
import Derived.BigQuiet
namespace Go.Proofs.YtckjjfkfapfdaaaGreat
open Go.RowKit Go.Shelf

/-- A slice that holds these texts. -/
def HoldsS (w : World) (v : Value) (xs : List ByteArray) : Prop :=
  ∃ a cap, v = .slice a xs.length cap ∧ (∀ i, i < xs.length → ∃ b off, a = some ⟨b, off, none⟩ ∧ w.cell? ⟨b, off + i, none⟩ = some (.string (xs.getD i ⟨#[]⟩))) ∧ (a = none → cap = 0)
theorem holds_own {w : World} {base : Nat} {v : Value} {xs : List ByteArray} (h : w.ownsRow base 9 1 v xs.length (strV xs)) : HoldsS w v xs := by
  rcases h.2 with ⟨rfl, h0⟩ | ⟨g, cap, cur, rfl, hg, hh, r⟩
  · exact ⟨none, 0, by rw [h0], fun i hi => by omega, fun _ => rfl⟩
  · refine ⟨some ⟨g, 0, none⟩, cap, rfl, fun i hi => ⟨g, 0, rfl, ?_⟩, fun e => by cases e⟩
    have h' : w.ownsRow base 9 1 (.slice (some ⟨g, 0, none⟩) xs.length cap) xs.length (strV xs) := h
    rw [Nat.zero_add, h'.cellAt i (by omega), strV, List.getElem?_map, List.getElem?_eq_getElem hi]
    simp [List.getD, List.getElem?_eq_getElem hi]
/-- Its first ones. -/
theorem holds_take {w : World} {a : Option Addr} {cap : Nat} {xs : List ByteArray} (h : HoldsS w (.slice a xs.length cap) xs) (k : Nat) (hk : k ≤ xs.length) : HoldsS w (.slice a k cap) (xs.take k) := by
  obtain ⟨a', cap', e, hc, hcn⟩ := h
  cases e
  have hl : (xs.take k).length = k := by rw [List.length_take]; omega
  refine ⟨a, cap, by rw [hl], fun i hi => ?_, hcn⟩
  rw [hl] at hi
  obtain ⟨b, off, h1, h2⟩ := hc i (by omega)
  refine ⟨b, off, h1, h2.trans ?_⟩
  simp [List.getD, hi]
theorem key_cell {w : World} {base n cap : Nat} {pa : Option Addr} {xs : List ByteArray} (h : w.ownsRow base 9 1 (.slice pa n cap) n (strV xs)) (k : Nat) (hk : k < xs.length) (hn : xs.length = n) : ∃ g, pa = some ⟨g, 0, none⟩ ∧ w.cell? ⟨g, k, none⟩ = some (.string xs[k]) := by
  obtain ⟨g, cap', e⟩ := own_form h (by omega)
  cases e
  refine ⟨g, rfl, ?_⟩
  rw [h.cellAt k (by omega), strV, List.getElem?_map, List.getElem?_eq_getElem hk]
  rfl
theorem key_cell' {w : World} {base n cap : Nat} {pa : Option Addr} {xs : List ByteArray} (h : w.ownsRow base 9 1 (.slice pa n cap) n (strV xs)) (k : Nat) (x : ByteArray) (hx : xs[k]? = some x) (hn : xs.length = n) : ∃ g, pa = some ⟨g, 0, none⟩ ∧ w.cell? ⟨g, k, none⟩ = some (.string x) := by
  obtain ⟨hk, e⟩ := List.getElem?_eq_some_iff.1 hx
  rw [← e]
  exact key_cell h k hk hn
theorem str_eq {x y : ByteArray} (h : x.toList = y.toList) : x = y := by
  rw [ByteArray.toList_eq, ByteArray.toList_eq] at h
  exact ByteArray.ext (Array.toList_inj.1 h)
theorem str_ne {x y : ByteArray} (h : x ≠ y) : (x.toList == y.toList) = false := beq_eq_false_iff_ne.2 fun e => h (str_eq e)
set_option maxHeartbeats 2000000 in
theorem same_eq (w : World) (v u : Value) (xs : List ByteArray) (hx : xs.length ≤ 140737488351232) (hv : HoldsS w v xs) (hu : HoldsS w u xs) :
    Calls Tryz.prog 18 #[v, u] w fun e w' => e = .returned (.bool true) ∧ w.grownBy w' none := by
  obtain ⟨a, c, rfl, ha, -⟩ := hv
  obtain ⟨b, d, rfl, hb, -⟩ := hu
  obtain ⟨n, hn⟩ : ∃ n, xs.length = n := ⟨_, rfl⟩
  rw [hn] at ha hb hx ⊢
  go_enter Tryz.func18, Tryz.ntmps18
  go_wp2
  go_loopw [5] (fun i wr => ∃ k j : Nat, k ≤ n ∧ i = .int .i64 k ∧ wr = w.drewN j) (fun i _ => n - (intOf i).toNat)
  case atStart => exact ⟨0, 0, Nat.zero_le _, rfl, (World.drewN_zero w).symm⟩
  case round =>
    obtain ⟨k, j, hk, rfl, rfl⟩ := hrel
    by_cases hlt : k < n
    · obtain ⟨b1, o1, rfl, c1⟩ := ha k hlt
      obtain ⟨b2, o2, rfl, c2⟩ := hb k hlt
      obtain ⟨x, hxx⟩ : ∃ x, x = xs.getD k ⟨#[]⟩ := ⟨_, rfl⟩
      rw [← hxx] at c1 c2
      have hki : (k : Int) < (n : Int) := by omega
      clear ha hb hxx
      go_wp2
      go_quiet (fail)
      go_wp2
      go_roundw
      case rel => exact ⟨k + 1, _, by omega, by go_num, rfl⟩
      case measure => simp [intOf]; omega
    · go_wp2
      go_ret
      exact ⟨rfl, rfl, rfl, rfl, Nat.le_refl _, fun _ _ _ => rfl⟩
end Go.Proofs.YtckjjfkfapfdaaaGreat
