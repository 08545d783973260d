/- What package textin's Parse answers: chapter 14's step. Conditions: the listed variables hold what the program's text lays. Two commands, rows of texts, requests and steps that are the same are told to be, by the statements' own helpers. Conditions: none. -/
import Derived.Test.YthofdmepofepgaaDoorTextRd
import Derived.Test.YthofdmepofepgaaDoorG25Joined
import Derived.Test.YthofdmepofepgaaDoorG06Joined
import Derived.Deep.QuietTactic
import Derived.BigQuiet
namespace Go.Proofs.YthofdmepofepgaaDoor
set_option linter.unusedVariables false
open Go.RowKit

section
variable {w : World} {a : Option Addr} {len cap : Nat} {l : List UInt8}
set_option maxRecDepth 100000 in
set_option maxHeartbeats 2000000 in
theorem parse_any (hLd : Laid w) (h : Bu w a len cap l) (hlen : len ≤ 9223372036854000000) : Calls Tryd.prog 9 #[.slice a len cap] w fun e w' => ParseEnd (parseN l) w e w' := by
  obtain ⟨W0, hW0⟩ : ∃ W0, W0 = w.alloc (.cells #[.slice none 0 0, .int .i64 0, .string ⟨#[]⟩, .int .i64 0, .int .u32 0, .bool false, .bool false, .string ⟨#[]⟩, .slice none 0 0, .slice none 0 0, .bool false, .string ⟨#[]⟩, .int .i64 0, .int .i64 0, .bool false, .int .i64 0] 33) := ⟨_, rfl⟩
  have g0 : w.grownBy W0 none := by rw [hW0]; exact World.grownBy_alloc _ _ _
  have r0 : W0.heap[w.heap.size]? = some (.cells #[.slice none 0 0, .int .i64 0, .string ⟨#[]⟩, .int .i64 0, .int .u32 0, .bool false, .bool false, .string ⟨#[]⟩, .slice none 0 0, .slice none 0 0, .bool false, .string ⟨#[]⟩, .int .i64 0, .int .i64 0, .bool false, .int .i64 0] 33 (0, 0)) := by rw [hW0]; exact World.alloc_heap_new w _
  have hz0 : W0.heap.size = w.heap.size + 1 := by rw [hW0, World.size_alloc]
  have HP := hide (tlparse_any tread_any saidN_ok (hLd.on (below_gr g0)) (h.on (below_gr g0)) hlen)
  rw [parse_said] at HP
  have R0 := hide (fun (w1 : World) (g1 : W0.grownBy w1 none) => (g1.block w.heap.size (by omega) (by simp)).trans r0)
  have G0 := hide g0
  generalize parseN l = y at *
  clear h hLd r0 g0 hlen
  go_enter Tryd.func9, Tryd.ntmps9
  go_wp2_with (first
    | (go_at_call 12; rw [← hW0]; refine HP.out.mono ?_; rintro e w1 ⟨ca, cc, ta, tc, ka, kc, rfl, q1, g1⟩; replace q1 := hide q1; replace g1 := hide g1)
    | (refine wpList_store_row rfl 33 _ _ rfl w.heap.size (stC y ca cc ta tc ka kc) rfl rfl _ _ (R0.out w1 g1.out) (step_size _ _ _ _ _ _ _) rfl (step_one _ _ _ _ _ _ _) ?_))
  have PE := parse_end (w := w) (n0 := w.heap.size + 1) (R0.out w1 g1.out) (by omega) (gr_trans G0.out g1.out) (fun W' hs hz => q1.out W' (fun k hk hl => hs k (by omega) hl) hz)
  exact step_ret rfl PE.1 rfl rfl PE.2
end
end Go.Proofs.YthofdmepofepgaaDoor

namespace Go.Proofs.YthofdmepofepgaaDoor
set_option linter.unusedVariables false
open Go.RowKit

theorem wrap_next {k n c : Nat} (h : k < n) (hn : n ≤ c) (hc : c ≤ maxLen) : wrap64 ((k : Int) + 1) = (k : Int) + 1 := by
  unfold maxLen at hc
  unfold wrap64
  omega
theorem int_lt {k n : Nat} (h : k < n) : (k : Int) < (n : Int) := by omega
theorem int_nlt (n : Nat) : ¬ (n : Int) < (n : Int) := by omega
section
variable {w : World}
set_option maxRecDepth 100000 in
set_option maxHeartbeats 2000000 in
theorem cmds_eq {c : Cv} {va vb : Option Addr} {vc vd : Nat} (h1 : Bu w va c.val.length vc c.val) (h2 : Bu w vb c.val.length vd c.val) : Calls Tryd.prog 25 #[.agg (cmC c va vc), .agg (cmC c vb vd)] w fun e w' => e = .returned (.bool true) ∧ w.grownBy w' none := by
  have k1 := convU ((h1.alloc (.cells (cmC c va vc) 38)).alloc (.cells (cmC c vb vd) 38))
  have k2 := convU ((h2.alloc (.cells (cmC c va vc) 38)).alloc (.cells (cmC c vb vd) 38))
  have HG := hide (gr_trans (World.grownBy_alloc w (.cells (cmC c va vc) 38) none) (World.grownBy_alloc (w.alloc (.cells (cmC c va vc) 38)) (.cells (cmC c vb vd) 38) none))
  clear h1 h2
  simp only [cmC] at *
  go_enter Tryd.func25, Tryd.ntmps25
  go_wp2
  go_ret
  exact ⟨by first | rfl | (simp; done), HG.out⟩
set_option maxHeartbeats 2000000 in
theorem texts_eq {a b : Option Addr} {n c d : Nat} {xs : List ByteArray} (hx : n ≤ 1000000) (h1 : Su w a n c xs) (h2 : Su w b n d xs) : Calls Tryd.prog 26 #[.slice a n c, .slice b n d] w fun e w' => e = .returned (.bool true) ∧ w.grownBy w' none := by
  have ha : ∀ k, k < n → ∃ b off, a = some ⟨b, off, none⟩ ∧ w.cell? ⟨b, off + k, none⟩ = some (.string (xs.getD k ⟨#[]⟩)) := fun k hk => by
    obtain ⟨b, off, e, h⟩ := h1.get hk
    exact ⟨b, off, e, by rw [h]; simp [List.getD, List.getElem?_eq_getElem (show k < xs.length by rw [h1.n]; exact hk)]⟩
  have hb : ∀ k, k < n → ∃ b' off, b = some ⟨b', off, none⟩ ∧ w.cell? ⟨b', off + k, none⟩ = some (.string (xs.getD k ⟨#[]⟩)) := fun k hk => by
    obtain ⟨b, off, e, h⟩ := h2.get hk
    exact ⟨b, off, e, by rw [h]; simp [List.getD, List.getElem?_eq_getElem (show k < xs.length by rw [h1.n]; exact hk)]⟩
  clear h1 h2
  go_enter Tryd.func26, Tryd.ntmps26
  go_wp2
  go_loopw [5] (fun i wr => ∃ k j : Nat, k ≤ n ∧ i = .int .i64 k ∧ wr = w.drewN j) (fun i _ => n - (intOf i).toNat)
  case atStart => exact ⟨0, 0, Nat.zero_le _, rfl, (World.drewN_zero w).symm⟩
  case round =>
    obtain ⟨k, j, hk, rfl, rfl⟩ := hrel
    by_cases hlt : k < n
    · obtain ⟨b1, o1, rfl, c1⟩ := ha k hlt
      obtain ⟨b2, o2, rfl, c2⟩ := hb k hlt
      obtain ⟨x, hxx⟩ : ∃ x, x = xs.getD k ⟨#[]⟩ := ⟨_, rfl⟩
      rw [← hxx] at c1 c2
      have hki : (k : Int) < (n : Int) := by omega
      clear ha hb hxx
      go_wp2
      go_quiet (fail)
      go_wp2
      go_roundw
      case rel => exact ⟨k + 1, _, by omega, by go_num, rfl⟩
      case measure => simp [intOf]; omega
    · go_wp2
      go_ret
      exact ⟨rfl, rfl, rfl, rfl, Nat.le_refl _, fun _ _ _ => rfl⟩
end
end Go.Proofs.YthofdmepofepgaaDoor
