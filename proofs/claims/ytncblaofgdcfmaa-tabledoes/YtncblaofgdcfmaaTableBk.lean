/- What package table does in one bucket: where a text stands. Conditions: at most 100000 entries. -/
import Derived.Test.YtncblaofgdcfmaaTableRow
import Derived.WalkKit
namespace Go.Proofs.Ytncblaofgdcfmaa
open Go.RowKit

theorem strB_ne {x y : ByteArray} (h : x ≠ y) : (x.toList == y.toList) = false := beq_eq_false_iff_ne.2 fun e => h (by
  rw [ByteArray.toList_eq, ByteArray.toList_eq] at e
  exact ByteArray.ext (Array.toList_inj.1 e))
theorem cell_grown0 {w w' : World} {k i : Nat} {v : Value} (hg : w.grownBy w' none) (h : w.cell? ⟨k, i, none⟩ = some v) : w'.cell? ⟨k, i, none⟩ = some v := by
  by_cases hk : k < w.heap.size
  · have e := hg.block k hk (by simp)
    unfold World.cell? at h ⊢
    rw [e]
    exact h
  · unfold World.cell? at h
    rw [Array.getElem?_eq_none (Nat.le_of_not_lt hk)] at h
    cases h
set_option maxHeartbeats 1000000 in
theorem alike_yes (k : ByteArray) (x : Int) (bx : Nat) (W : World) (hc : W.cell? ⟨bx, 0, none⟩ = some (.string k)) : Calls Try.prog 44 #[.agg #[.string k, .int .i64 x], .pointer (some ⟨bx, 0, none⟩)] W fun e w' => e = .returned (.bool true) ∧ W.grownBy w' none := by
  have hg := World.grownBy_alloc W (.cells #[.string k, .int .i64 x] 63) none
  have hc2 := cell_grown0 hg hc
  go_enter Try.func44, Try.ntmps44
  go_wp2
  go_ret
  exact ⟨rfl, hg⟩
set_option maxHeartbeats 1000000 in
theorem alike_no (a k : ByteArray) (x : Int) (hne : a ≠ k) (bx : Nat) (W : World) (hc : W.cell? ⟨bx, 0, none⟩ = some (.string k)) : Calls Try.prog 44 #[.agg #[.string a, .int .i64 x], .pointer (some ⟨bx, 0, none⟩)] W fun e w' => e = .returned (.bool false) ∧ W.grownBy w' none := by
  have hg := World.grownBy_alloc W (.cells #[.string a, .int .i64 x] 63) none
  have hc2 := cell_grown0 hg hc
  have hs := strB_ne hne
  go_enter Try.func44, Try.ntmps44
  go_wp2
  go_ret
  exact ⟨rfl, hg⟩
theorem row_grown {w w' : World} {e : TypeId} {size n : Nat} {v : Value} {xs : List Value} (h : w.ownsRow 0 e size v n xs) (hg : w.grownBy w' none) : w'.ownsRow 0 e size v n xs := own_same h fun k hk => hg.block k (own_at h hk).2.1 (by simp)
set_option maxRecDepth 100000 in
set_option maxHeartbeats 2000000 in
theorem idx_hit {w : World} {v : Value} {pre post : List Kv} {k : ByteArray} {x : Int} (hv : rowE w v (pre ++ (k, x) :: post)) (hn : (pre ++ (k, x) :: post).length ≤ 100000) (hpre : ∀ p ∈ pre, p.1 ≠ k) (bx : Nat) (hb : w.cell? ⟨bx, 0, none⟩ = some (.string k)) :
    Calls Try.prog 43 #[v, .func (.func 44) #[] #[.pointer (some ⟨bx, 0, none⟩)]] w fun e w' => e = .returned (.int .i64 (pre.length : Nat)) ∧ w.grownBy w' none := by
  obtain ⟨pa, cap, rfl⟩ := own_shape hv
  obtain ⟨n, hln⟩ : ∃ n, (pre ++ (k, x) :: post).length = n := ⟨_, rfl⟩
  obtain ⟨m, hlm⟩ : ∃ m, pre.length = m := ⟨_, rfl⟩
  have hmn : m < n := by rw [← hln, ← hlm, List.length_append, List.length_cons]; omega
  unfold rowE at hv
  rw [hln] at hn hv ⊢
  rw [hlm]
  have HV : Hid (w.ownsRow 0 63 2 (.slice pa n cap) n (enV (pre ++ (k, x) :: post))) := hv
  have hN := hide hln
  have hM := hide hlm
  clear hv hln hlm
  go_enter Try.func43, Try.ntmps43
  go_wp2
  go_loopw [5, 8] (fun _ i wr => ∃ j : Nat, j ≤ m ∧ i = .int .i64 j ∧ Hid (w.grownBy wr none)) (fun _ i _ => n - (intOf i).toNat)
  case atStart => exact ⟨0, Nat.zero_le _, rfl, gr_refl _ _⟩
  case round =>
    obtain ⟨j, hj, rfl, HG⟩ := hrel
    have hji : (j : Int) < (n : Int) := by omega
    have hbw := cell_grown0 HG.out hb
    by_cases hlt : j < m
    · have hp : (pre ++ (k, x) :: post)[j]? = some (pre[j]'(by rw [hM.out]; exact hlt)) := by rw [List.getElem?_append_left (by rw [hM.out]; exact hlt)]; exact List.getElem?_eq_getElem _
      have hne := hpre _ (List.getElem_mem (by rw [hM.out]; exact hlt))
      obtain ⟨g, rfl, c1, c2⟩ := entry_at (row_grown HV.out HG.out) hp
      generalize pre[j]'(by rw [hM.out]; exact hlt) = p at *
      obtain ⟨a, y⟩ := p
      have HA := hide (fun W (h : W.cell? ⟨bx, 0, none⟩ = some (.string k)) => alike_no a k y hne bx W h)
      clear hp hne
      go_wp2_with (go_at_call 44; refine (HA.out _ hbw).mono ?_; rintro e w1 ⟨rfl, hg1⟩)
      go_roundw
      case rel => exact ⟨j + 1, hlt, by go_num, hide (gr_trans HG.out hg1)⟩
      case measure => simp [intOf]; omega
    · obtain rfl : j = m := by omega
      have hp : (pre ++ (k, x) :: post)[j]? = some (k, x) := by rw [List.getElem?_append_right (by rw [hM.out]; exact Nat.le_refl _), hM.out]; simp
      obtain ⟨g, rfl, c1, c2⟩ := entry_at (row_grown HV.out HG.out) hp
      have HA := hide (fun W (h : W.cell? ⟨bx, 0, none⟩ = some (.string k)) => alike_yes k x bx W h)
      clear hp hlt
      go_wp2_with (go_at_call 44; refine (HA.out _ hbw).mono ?_; rintro e w1 ⟨rfl, hg1⟩)
      go_ret
      exact ⟨rfl, gr_trans HG.out hg1⟩
set_option maxRecDepth 100000 in
set_option maxHeartbeats 2000000 in
theorem idx_miss {w : World} {v : Value} {l : List Kv} {k : ByteArray} (hv : rowE w v l) (hn : l.length ≤ 100000) (hpre : ∀ p ∈ l, p.1 ≠ k) (bx : Nat) (hb : w.cell? ⟨bx, 0, none⟩ = some (.string k)) :
    Calls Try.prog 43 #[v, .func (.func 44) #[] #[.pointer (some ⟨bx, 0, none⟩)]] w fun e w' => e = .returned (.int .i64 (-1)) ∧ w.grownBy w' none := by
  obtain ⟨pa, cap, rfl⟩ := own_shape hv
  obtain ⟨n, hln⟩ : ∃ n, l.length = n := ⟨_, rfl⟩
  unfold rowE at hv
  rw [hln] at hn hv ⊢
  have HV : Hid (w.ownsRow 0 63 2 (.slice pa n cap) n (enV l)) := hv
  have hN := hide hln
  clear hv hln
  go_enter Try.func43, Try.ntmps43
  go_wp2
  go_loopw [5, 8] (fun _ i wr => ∃ j : Nat, j ≤ n ∧ i = .int .i64 j ∧ Hid (w.grownBy wr none)) (fun _ i _ => n - (intOf i).toNat)
  case atStart => exact ⟨0, Nat.zero_le _, rfl, gr_refl _ _⟩
  case round =>
    obtain ⟨j, hj, rfl, HG⟩ := hrel
    have hbw := cell_grown0 HG.out hb
    by_cases hlt : j < n
    · have hji : (j : Int) < (n : Int) := by omega
      have hp : l[j]? = some (l[j]'(by rw [hN.out]; exact hlt)) := List.getElem?_eq_getElem _
      have hne := hpre _ (List.getElem_mem (by rw [hN.out]; exact hlt))
      obtain ⟨g, rfl, c1, c2⟩ := entry_at (row_grown HV.out HG.out) hp
      generalize l[j]'(by rw [hN.out]; exact hlt) = p at *
      obtain ⟨a, y⟩ := p
      have HA := hide (fun W (h : W.cell? ⟨bx, 0, none⟩ = some (.string k)) => alike_no a k y hne bx W h)
      clear hp hne
      go_wp2_with (go_at_call 44; refine (HA.out _ hbw).mono ?_; rintro e w1 ⟨rfl, hg1⟩)
      go_roundw
      case rel => exact ⟨j + 1, hlt, by go_num, hide (gr_trans HG.out hg1)⟩
      case measure => simp [intOf]; omega
    · have hji : ¬ (j : Int) < (n : Int) := by omega
      clear hlt
      go_wp2
      go_ret
      exact ⟨rfl, HG.out⟩
set_option maxRecDepth 100000 in
set_option maxHeartbeats 1000000 in
theorem find_hit {w : World} {v : Value} {pre post : List Kv} {k : ByteArray} {x : Int} (hv : rowE w v (pre ++ (k, x) :: post)) (hn : (pre ++ (k, x) :: post).length ≤ 100000) (hpre : ∀ p ∈ pre, p.1 ≠ k) (g i : Nat) (hc : w.cell? ⟨g, i, none⟩ = some v) :
    Calls Try.prog 35 #[.pointer (some ⟨g, i, none⟩), .string k] w fun e w' => e = .returned (.int .i64 (pre.length : Nat)) ∧ w.grownBy w' none := by
  have hg := World.grownBy_alloc w (.cells #[.string k] 9) none
  have hc2 := cell_grown0 hg hc
  have HA := hide (idx_hit (row_grown hv hg) hn hpre w.heap.size (by simp))
  obtain ⟨pa, cap, rfl⟩ := own_shape hv
  clear hv hn hpre
  generalize (pre ++ (k, x) :: post).length = n at *
  go_enter Try.func35, Try.ntmps35
  go_wp2_with (go_at_call 43; refine HA.out.mono ?_; rintro e w1 ⟨rfl, hg1⟩)
  go_ret
  exact ⟨rfl, gr_trans hg hg1⟩
set_option maxRecDepth 100000 in
set_option maxHeartbeats 1000000 in
theorem find_miss {w : World} {v : Value} {l : List Kv} {k : ByteArray} (hv : rowE w v l) (hn : l.length ≤ 100000) (hpre : ∀ p ∈ l, p.1 ≠ k) (g i : Nat) (hc : w.cell? ⟨g, i, none⟩ = some v) :
    Calls Try.prog 35 #[.pointer (some ⟨g, i, none⟩), .string k] w fun e w' => e = .returned (.int .i64 (-1)) ∧ w.grownBy w' none := by
  have hg := World.grownBy_alloc w (.cells #[.string k] 9) none
  have hc2 := cell_grown0 hg hc
  have HA := hide (idx_miss (row_grown hv hg) hn hpre w.heap.size (by simp))
  obtain ⟨pa, cap, rfl⟩ := own_shape hv
  clear hv hn
  go_enter Try.func35, Try.ntmps35
  go_wp2_with (go_at_call 43; refine HA.out.mono ?_; rintro e w1 ⟨rfl, hg1⟩)
  go_ret
  exact ⟨rfl, gr_trans hg hg1⟩
end Go.Proofs.Ytncblaofgdcfmaa
