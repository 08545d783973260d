/- Two commands, rows of texts, requests and steps that are the same are told to be, by the statements' own helpers. Conditions: none. -/
import Derived.Test.YtbpfgakcdainlaaDoorStepC
import Derived.Test.YtbpfgakcdainlaaDoorG02Joined
import Derived.Test.YtbpfgakcdainlaaDoorG03Joined
import Derived.Deep.QuietTactic
import Derived.BigQuiet
namespace Go.Proofs.YtbpfgakcdainlaaDoor
set_option linter.unusedVariables false
open Go.RowKit

theorem wrap_next {k n c : Nat} (h : k < n) (hn : n ≤ c) (hc : c ≤ maxLen) : wrap64 ((k : Int) + 1) = (k : Int) + 1 := by
  unfold maxLen at hc
  unfold wrap64
  omega
theorem int_lt {k n : Nat} (h : k < n) : (k : Int) < (n : Int) := by omega
theorem int_nlt (n : Nat) : ¬ (n : Int) < (n : Int) := by omega
section
variable {w : World}
set_option maxRecDepth 100000 in
set_option maxHeartbeats 2000000 in
theorem cmds_eq {c : Cv} {va vb : Option Addr} {vc vd : Nat} (h1 : Bu w va c.val.length vc c.val) (h2 : Bu w vb c.val.length vd c.val) : Calls Tryd.prog 26 #[.agg (cmC c va vc), .agg (cmC c vb vd)] w fun e w' => e = .returned (.bool true) ∧ w.grownBy w' none := by
  have k1 := convU ((h1.alloc (.cells (cmC c va vc) 40)).alloc (.cells (cmC c vb vd) 40))
  have k2 := convU ((h2.alloc (.cells (cmC c va vc) 40)).alloc (.cells (cmC c vb vd) 40))
  have HG := hide (gr_trans (World.grownBy_alloc w (.cells (cmC c va vc) 40) none) (World.grownBy_alloc (w.alloc (.cells (cmC c va vc) 40)) (.cells (cmC c vb vd) 40) none))
  clear h1 h2
  simp only [cmC] at *
  go_enter Tryd.func26, Tryd.ntmps26
  go_wp2
  go_ret
  exact ⟨by first | rfl | (simp; done), HG.out⟩
set_option maxHeartbeats 2000000 in
theorem texts_eq {a b : Option Addr} {n c d : Nat} {xs : List ByteArray} (hx : n ≤ 1000000) (h1 : Su w a n c xs) (h2 : Su w b n d xs) : Calls Tryd.prog 27 #[.slice a n c, .slice b n d] w fun e w' => e = .returned (.bool true) ∧ w.grownBy w' none := by
  have ha : ∀ k, k < n → ∃ b off, a = some ⟨b, off, none⟩ ∧ w.cell? ⟨b, off + k, none⟩ = some (.string (xs.getD k ⟨#[]⟩)) := fun k hk => by
    obtain ⟨b, off, e, h⟩ := h1.get hk
    exact ⟨b, off, e, by rw [h]; simp [List.getD, List.getElem?_eq_getElem (show k < xs.length by rw [h1.n]; exact hk)]⟩
  have hb : ∀ k, k < n → ∃ b' off, b = some ⟨b', off, none⟩ ∧ w.cell? ⟨b', off + k, none⟩ = some (.string (xs.getD k ⟨#[]⟩)) := fun k hk => by
    obtain ⟨b, off, e, h⟩ := h2.get hk
    exact ⟨b, off, e, by rw [h]; simp [List.getD, List.getElem?_eq_getElem (show k < xs.length by rw [h1.n]; exact hk)]⟩
  clear h1 h2
  go_enter Tryd.func27, Tryd.ntmps27
  go_wp2
  go_loopw [5] (fun i wr => ∃ k j : Nat, k ≤ n ∧ i = .int .i64 k ∧ wr = w.drewN j) (fun i _ => n - (intOf i).toNat)
  case atStart => exact ⟨0, 0, Nat.zero_le _, rfl, (World.drewN_zero w).symm⟩
  case round =>
    obtain ⟨k, j, hk, rfl, rfl⟩ := hrel
    by_cases hlt : k < n
    · obtain ⟨b1, o1, rfl, c1⟩ := ha k hlt
      obtain ⟨b2, o2, rfl, c2⟩ := hb k hlt
      obtain ⟨x, hxx⟩ : ∃ x, x = xs.getD k ⟨#[]⟩ := ⟨_, rfl⟩
      rw [← hxx] at c1 c2
      have hki : (k : Int) < (n : Int) := by omega
      clear ha hb hxx
      go_wp2
      go_quiet (fail)
      go_wp2
      go_roundw
      case rel => exact ⟨k + 1, _, by omega, by go_num, rfl⟩
      case measure => simp [intOf]; omega
    · go_wp2
      go_ret
      exact ⟨rfl, rfl, rfl, rfl, Nat.le_refl _, fun _ _ _ => rfl⟩
end
end Go.Proofs.YtbpfgakcdainlaaDoor
