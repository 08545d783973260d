/- What slices.Clone of bytes answers: bytes of its own. Conditions: at most 1000000 bytes. -/
import Derived.Test.YtaafkefgpgoepaaG01Joined
namespace Go.Proofs.Ytaafkefgpgoepaa
set_option linter.unusedVariables false
open Go.RowKit

set_option maxRecDepth 100000 in
set_option maxHeartbeats 1000000 in
theorem sclone_any {w : World} {a : Option Addr} {n c : Nat} {l : List UInt8} (hl : n ≤ 1000000) (h : Bu w a n c l) :
    Calls Try.prog 31 #[.slice a n c] w fun e w' => ∃ a' c', e = .returned (.slice a' n c') ∧ ValAt w.heap.size w' a' c' l ∧ w.grownBy w' none := by
  have hn := h.n
  cases a with
  | none =>
    obtain ⟨rfl, h0, rfl⟩ : n = 0 ∧ ints l = [] ∧ c = 0 := by
      rcases h.b with ⟨h1, h2, h3⟩ | ⟨b, off, r⟩
      · exact ⟨h1, h2, h3 rfl⟩
      · cases r.at_
    have hb : l = [] := List.eq_nil_of_length_eq_zero hn
    subst hb
    have hE := fun W => eql_nil none 0 0 W
    clear h
    go_enter Try.func31, Try.ntmps31
    go_wp2
    go_ret
    exact ⟨none, 0, rfl, World.ownsRow_nil _ _ _ _, gr_refl _ _⟩
  | some x =>
    have hE := fun W => eql_nil (some x) n c W
    have HB := hide (h.alloc (.cells #[] 5))
    clear h
    go_enter Try.func31, Try.ntmps31
    go_wp2_with (at_builtin; refine wpList_append_bs rfl _ _ rfl w.heap.size _ 0 [] rfl (owns_empty w) _ n c l rfl hn HB.out.b (by omega) (by simp) ?_; intro v' w' ho hg hk)
    rw [Nat.zero_add] at ho
    obtain ⟨a1, c1, rfl⟩ := own_shape ho
    go_ret
    refine ⟨a1, c1, rfl, ?_, gr_new (World.grownBy_alloc w _ none) hg (Nat.le_refl _)⟩
    unfold ValAt
    rw [hn]
    exact ho
end Go.Proofs.Ytaafkefgpgoepaa
