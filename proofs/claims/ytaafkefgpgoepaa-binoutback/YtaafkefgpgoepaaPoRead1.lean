/- Package binout's measure of an answer, where its parts end, and these in memory of their own. Conditions: the bytes lie in memory, at most 200000. -/
import Derived.Test.YtaafkefgpgoepaaBinPGet
import Derived.Test.YtaafkefgpgoepaaSub3
import Derived.Test.YtaafkefgpgoepaaSlClone
import Derived.Test.YtaafkefgpgoepaaBoRM
namespace Go.Proofs.Ytaafkefgpgoepaa
set_option linter.unusedVariables false
set_option linter.unusedSimpArgs false
open Go.RowKit Go.Shelf

section
variable {w : World} {a : Option Addr} {g off len cap : Nat} {b : List UInt8}
theorem first_byteD (h : Bu w (some ⟨g, off, none⟩) len cap b) (i : Nat) (hi : i < len) : w.cell? ⟨g, off + i, none⟩ = some (.int .u8 ((b.getD i 0).toNat : Int)) := by
  have hn := h.n
  rw [first_byte h i (by omega), List.getD_eq_getElem?_getD, List.getElem?_eq_getElem (by omega)]
  rfl
/-- What a head's numbers are at most. -/
structure HdB (b : List UInt8) : Prop where
  x0 : 0 ≤ by4 b
  x1 : by4 b ≤ 255
  k0 : 0 ≤ getB b 2 2
  k1 : getB b 2 2 ≤ 65535
  l0 : 0 ≤ getB b 8 4
  l1 : getB b 8 4 < 4294967296
theorem hdB_of (h : 24 ≤ b.length) : HdB b := by
  have l0 := (numB_bd ((b.drop 8).take 4)).1
  have l1 := numB_four (l := (b.drop 8).take 4) (by rw [List.length_take, List.length_drop]; omega)
  have k0 := (numB_bd ((b.drop 2).take 2)).1
  have k1 := numB_two (l := (b.drop 2).take 2) (by rw [List.length_take, List.length_drop]; omega)
  have x1 : by4 b ≤ 255 := by have := UInt8.toNat_lt (b.getD 4 0); unfold by4; omega
  exact ⟨Int.natCast_nonneg _, x1, k0, k1, l0, l1⟩
theorem w64_idP {z : Int} (h0 : 0 ≤ z) (h1 : z < 8589934592) : wrap64 z = z := by unfold wrap64; omega
set_option maxRecDepth 100000 in
set_option maxHeartbeats 4000000 in
theorem pends_any (h : Bu w (some ⟨g, off, none⟩) len cap b) (h24 : 24 ≤ len) : Calls Try.prog 30 #[.slice (some ⟨g, off, none⟩) len cap] w fun e w' => e = .returned (.tuple #[.int .i64 (24 + by4 b), .int .i64 (24 + by4 b + getB b 2 2)]) ∧ w' = w := by
  have hc := h.c
  have hn := h.n
  obtain ⟨x0, x1, k0, k1, _, _⟩ := hdB_of (b := b) (by omega)
  have c4 : w.cell? ⟨g, off + 4, none⟩ = some (.int .u8 (by4 b)) := first_byteD h 4 (by omega)
  have H1 := hide (pget_any (h.part3 2 2 (by omega)) (by decide) (by decide))
  rw [show numB ((b.drop 2).take 2) = getB b 2 2 from rfl] at H1
  generalize by4 b = x at *
  generalize getB b 2 2 = k at *
  have i1 := i64_id x0 (by omega)
  have i2 := i64_id k0 (by omega)
  have e1 : Hid (wrap64 (24 + x) = 24 + x) := w64_idP (by omega) (by omega)
  have e2 : Hid (wrap64 (24 + x + k) = 24 + x + k) := w64_idP (by omega) (by omega)
  have l4 : (4 : Int) < (len : Int) := by omega
  have d4 : (4 : Int) ≤ (cap : Int) := by omega
  have m2 : ¬ cap = 2 := by omega
  clear h hc hn h24 x0 x1 k0 k1
  go_enter Try.func30, Try.ntmps30
  go_wp2_with (go_at_call 23; refine H1.out.mono ?_; rintro e w2 ⟨rfl, rfl⟩)
  go_ret2
  exact ⟨by first | rfl | (simp only [e1.out, e2.out]; rfl), rfl⟩
set_option maxRecDepth 100000 in
set_option maxHeartbeats 4000000 in
theorem pmeas_short (h : len < 24) : Calls Try.prog 22 #[.slice a len cap] w fun e w' => e = .returned (.int .i64 0) ∧ w' = w := by
  have h1 : (len : Int) < 24 := by omega
  clear h
  go_enter Try.func22, Try.ntmps22
  go_wp2
  go_ret
  exact ⟨rfl, rfl⟩
set_option maxRecDepth 100000 in
set_option maxHeartbeats 4000000 in
theorem pmeas_no (h : Bu w (some ⟨g, off, none⟩) len cap b) (h24 : 24 ≤ len) (hm : len ≤ 200000) (hr : ¬ readP b) : Calls Try.prog 22 #[.slice (some ⟨g, off, none⟩) len cap] w fun e w' => e = .returned (.int .i64 0) ∧ w' = w := by
  have hc := h.c
  have hn := h.n
  obtain ⟨x0, x1, k0, k1, l0, l1⟩ := hdB_of (b := b) (by omega)
  have hw : ¬ ((b.getD 0 0).toNat : Int) = 129 ∨ ((b.getD 0 0).toNat : Int) = 129 ∧ (1048576 : Int) ≤ getB b 8 4 ∨ ((b.getD 0 0).toNat : Int) = 129 ∧ ¬ (1048576 : Int) ≤ getB b 8 4 ∧ (len : Int) - 24 < getB b 8 4 ∨ ((b.getD 0 0).toNat : Int) = 129 ∧ ¬ (1048576 : Int) ≤ getB b 8 4 ∧ ¬ (len : Int) - 24 < getB b 8 4 ∧ 24 + getB b 8 4 < 24 + by4 b + getB b 2 2 := by
    unfold readP at hr
    omega
  have c0 := first_byteD h 0 (by omega)
  rw [Nat.add_zero] at c0
  have H1 := hide (pget_any (h.part3 8 4 (by omega)) (by decide) (by decide))
  rw [show numB ((b.drop 8).take 4) = getB b 8 4 from rfl] at H1
  have H2 := hide (pends_any h h24)
  generalize by4 b = x at *
  generalize getB b 2 2 = k at *
  generalize getB b 8 4 = l at *
  generalize ((b.getD 0 0).toNat : Int) = z at *
  have e0 : wrap64 ((len : Int) - 24) = (len : Int) - 24 := w64_idP (by omega) (by omega)
  have e1 : IntKind.u64.wrap ((len : Int) - 24) = (len : Int) - 24 := by rw [IntKind.wrap_u64]; omega
  have e2 := i64_id l0 l1
  have e3 : wrap64 (24 + l) = 24 + l := w64_idP (by omega) (by omega)
  have l2 : ¬ (len : Int) < 24 := by omega
  have l3 : (0 : Int) < (len : Int) := by omega
  have d8 : (8 : Int) ≤ (cap : Int) := by omega
  have d12 : (12 : Int) ≤ (cap : Int) := by omega
  have m8 : ¬ cap = 8 := by omega
  clear h hc hn h24 x0 x1 k0 k1 l0 l1 hr hm
  rcases hw with h1 | ⟨h1, h2⟩ | ⟨h1, h2, h3⟩ | ⟨h1, h2, h3, h4⟩
  · have z1 : (z != 129) = true := by simpa using h1
    have z2 := (show (z == 129) = false by rw [beq_eq_false_iff_ne]; exact h1)
    clear h1 H1 H2
    go_enter Try.func22, Try.ntmps22
    go_wp2
    go_ret
    exact ⟨rfl, rfl⟩
  all_goals
    subst h1
    go_enter Try.func22, Try.ntmps22
    go_wp2_with (first
      | (go_at_call 23; refine H1.out.mono ?_; rintro e w2 ⟨rfl, hw2⟩; rw [hw2]; clear hw2)
      | (go_at_call 30; refine H2.out.mono ?_; rintro e w2 ⟨rfl, hw2⟩; rw [hw2]; clear hw2))
    go_ret
    exact ⟨rfl, rfl⟩
set_option maxRecDepth 100000 in
set_option maxHeartbeats 4000000 in
theorem pmeas_yes (h : Bu w (some ⟨g, off, none⟩) len cap b) (hm : len ≤ 200000) (hr : readP b) : Calls Try.prog 22 #[.slice (some ⟨g, off, none⟩) len cap] w fun e w' => e = .returned (.int .i64 (24 + getB b 8 4)) ∧ w' = w := by
  have hc := h.c
  have hn := h.n
  obtain ⟨h24, h129, h20, hfit, hsum⟩ := hr
  rw [hn] at h24 hfit
  obtain ⟨x0, x1, k0, k1, l0, l1⟩ := hdB_of (b := b) (by omega)
  have c0 := first_byteD h 0 (by omega)
  rw [Nat.add_zero, h129] at c0
  have H1 := hide (pget_any (h.part3 8 4 (by omega)) (by decide) (by decide))
  rw [show numB ((b.drop 8).take 4) = getB b 8 4 from rfl] at H1
  have H2 := hide (pends_any h h24)
  generalize by4 b = x at *
  generalize getB b 2 2 = k at *
  generalize getB b 8 4 = l at *
  have e0 : wrap64 ((len : Int) - 24) = (len : Int) - 24 := w64_idP (by omega) (by omega)
  have e1 : IntKind.u64.wrap ((len : Int) - 24) = (len : Int) - 24 := by rw [IntKind.wrap_u64]; omega
  have e2 := i64_id l0 l1
  have e3 : wrap64 (24 + l) = 24 + l := w64_idP (by omega) (by omega)
  have l2 : ¬ (len : Int) < 24 := by omega
  have l3 : (0 : Int) < (len : Int) := by omega
  have d8 : (8 : Int) ≤ (cap : Int) := by omega
  have d12 : (12 : Int) ≤ (cap : Int) := by omega
  have m8 : ¬ cap = 8 := by omega
  have n1 : ¬ (1048576 : Int) ≤ l := by omega
  have n2 : ¬ (len : Int) - 24 < l := by omega
  have n3 : ¬ 24 + l < 24 + x + k := by omega
  clear h hc hn h24 x0 x1 k0 k1 l0 l1 hm h129 h20 hfit hsum
  go_enter Try.func22, Try.ntmps22
  go_wp2_with (first
    | (go_at_call 23; refine H1.out.mono ?_; rintro e w2 ⟨rfl, hw2⟩; rw [hw2]; clear hw2)
    | (go_at_call 30; refine H2.out.mono ?_; rintro e w2 ⟨rfl, hw2⟩; rw [hw2]; clear hw2))
  go_ret
  exact ⟨rfl, rfl⟩
end
end Go.Proofs.Ytaafkefgpgoepaa
