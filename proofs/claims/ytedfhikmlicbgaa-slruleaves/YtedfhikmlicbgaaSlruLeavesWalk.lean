/- SlruLeaves returns true for every number, all calls and every key, and writes nothing that was there. Conditions: the contracts of package slru. -/
import Derived.Test.YtedfhikmlicbgaaSlruPlayed
import Derived.Deep.CutBlock
import Derived.Deep.CutRange
namespace Go.Proofs.Ytedfhikmlicbgaa
open Go.RowKit Go.Shelf
variable {Ls : World → Nat → (Nat → Prop) → Sr → Prop}

theorem without_snoc {l : List ByteArray} {x s : ByteArray} (h : x ≠ s) : without (l ++ [x]) s = without l s ++ [x] := by
  rw [without_app]
  simp [without, h]
theorem without_same {l : List ByteArray} {s : ByteArray} : without (l ++ [s]) s = without l s := by
  rw [without_app]
  simp [without]
set_option maxRecDepth 100000 in
set_option maxHeartbeats 4000000 in
theorem slruLeaves_in (L : SlruLib Ls) (most : Int) (hm : I64 most) (s : ByteArray) (hz : s.size ≤ 300) {w : World} {a : Option Addr} {len cap : Nat} {os : List Op8} (h : OpsAt w a len cap os) (hS : Short os) :
    Calls Try.prog 8 #[.int .i64 most, .slice a len cap, .string s] w fun e w' => e = .returned (.bool true) ∧ Below w.heap.size w w' := by
  have hl := h.len_
  have hlen : len ≤ 200 := by rw [← hl]; exact hS.1
  have hzi : (s.size : Int) ≤ 300 := by omega
  have hM : (300 : Nat) < maxLen := by decide
  have hzM : s.size ≤ maxLen := by omega
  have hB : Below w.heap.size w w := Below.refl _ _
  obtain ⟨i0, hi, hz0, hz1, hz2⟩ := info_parts info_str
  go_enter Try.func8, Try.ntmps8
  go_upto_region 6 with (first
    | (go_at_call 9; refine (awake_any L _).mono ?_; rintro e w1 ⟨rfl, hb⟩; replace hB := Bt hB hb; clear hb)
    | (go_at_call 10; refine (short_any (h.on hB)).mono ?_; rintro e w2 ⟨⟨q, rfl, hq⟩, hg⟩; obtain rfl : q = true := hq.2 hS; replace hB := gr_below hB hg (fun _ e => by cases e); clear hg hq)
    | (go_at_call 25; refine (played_is L (Law.ofBelow hB) most hm h).mono ?_; clear hB; rintro e w3 ⟨b, own, st, rfl, hs, -, H⟩))
  obtain ⟨t1, T1⟩ : ∃ t, remR st s = t := ⟨_, rfl⟩
  obtain ⟨e1, E1⟩ : ∃ t, remErr st s = t := ⟨_, rfl⟩
  have hal := all_rem st s
  have hln := len_rem st s
  rw [T1] at hal hln
  have hno : ¬ s ∈ allR t1 := by
    rw [hal]
    exact fun hm => (mem_without.1 hm).2 rfl
  have R2 := hide (rem_out hno)
  have A2 := hide (add_out hno).1
  have hnd := H.good.nodup
  have HH : Hid ((e1 == 0) = decide ((allR t1).length < (allR st).length)) := by
    show _ = _
    rw [← E1, hal]
    by_cases hmem : s ∈ allR st
    · rw [rem_in hmem]
      exact (decide_eq_true (without_lt hmem)).symm
    · rw [(rem_out hmem).1, without_not hmem]
      exact (decide_eq_false (Nat.lt_irrefl _)).symm
  have m0 : (allR st).length ≤ maxLen := by omega
  have m1 : (allR t1).length ≤ maxLen := by omega
  have m2 : (allR t1).length < maxLen := by omega
  have b0 : (allR st).length ≤ 1000 := by omega
  have b1 : (allR t1).length ≤ 1000 := by omega
  have K1 := hide (take_all (st := st) (by omega))
  have K2 := hide (take_all (st := t1) (by omega))
  have HL := hide hal
  have T1' := hide T1
  have E1' := hide E1
  have hn2 : (allR st).length ≤ 200 := by omega
  have hn3 : (allR t1).length ≤ 140737488351232 := by omega
  clear hal T1 E1 hno hnd hln
  go_wp2_with (first
    | (go_at_call 21; have t := K1; clear t; refine (all_is L H b0 1000 (by decide) _ K1.out).mono ?_; clear H K1; rintro e w5 ⟨va, rfl, H⟩; obtain ⟨pa, ca, rfl⟩ := own_shape H.q.2.1.1; obtain ⟨hca, hcm⟩ := own_cap H.q.2.1.1; unfold maxLen at hcm)
    | (go_at_call 16; have t := E1'; clear t; refine (remove_is L H m0 s hzM _ _ E1'.out T1'.out).mono ?_; clear H E1' T1'; rintro e w6 ⟨rfl, own6, H⟩)
    | (go_at_call 16; refine (remove_is L H m1 s hzM _ _ R2.out.1 R2.out.2).mono ?_; clear H R2; rintro e w7 ⟨rfl, own7, H⟩))
  obtain ⟨xs, hxs⟩ : ∃ xs, allR st = xs := ⟨_, rfl⟩
  rw [hxs] at H HL hca HH hn2 ⊢
  obtain ⟨n, hn⟩ : ∃ n, xs.length = n := ⟨_, rfl⟩
  unfold keysP at H
  rw [hn] at H hca HH hn2 ⊢
  clear hxs m0 hs
  go_loopw [13, 14] (fun v i wr => ∃ k : Nat, k ≤ n ∧ i = .int .i64 k ∧ Law w wr ((keysP w.heap.size v (without (xs.take k) s)).and ((lsP L b own7 t1).and ((rowP w.heap.size 9 1 (.slice pa n ca) n (strV xs)).and Part.emp)))) (fun _ i _ => n - (intOf i).toNat)
  case atStart => exact ⟨0, Nat.zero_le _, rfl, H.nil⟩
  case round =>
    clear H
    obtain ⟨k, hk, rfl, H⟩ := hrel
    obtain ⟨pv, cv, rfl⟩ := own_shape H.q.1
    by_cases hlt : k < n
    · obtain ⟨g, rfl, c1⟩ := key_cell H.q.2.1.2.1.1 k (by omega) hn
      have htk : xs.take (k + 1) = xs.take k ++ [xs[k]] := List.take_succ_eq_append_getElem (by omega)
      have hlw : (without (xs.take k) s).length ≤ 200 := by
        have := without_le (xs.take k) s
        rw [List.length_take] at this
        omega
      by_cases he : xs[k] = s
      · rw [he] at c1 htk
        have HW : Hid (without (xs.take (k + 1)) s = without (xs.take k) s) := by
          show _ = _
          rw [htk, without_same]
        clear htk
        go_wp2
        go_roundw
        case rel => exact ⟨k + 1, by omega, by go_num, by rw [HW.out]; exact H⟩
        case measure => simp [intOf]; omega
      · have hne := str_ne he
        have HW : Hid (without (xs.take (k + 1)) s = without (xs.take k) s ++ [xs[k]]) := by
          show _ = _
          rw [htk, without_snoc he]
        clear htk he
        generalize xs[k] = x at *
        have hrow : wr.ownsRow w.heap.size 9 1 _ _ _ := H.q.1
        have hB := H.below.size
        go_wp2_with (at_builtin; refine wpList_append_own_at _ rfl _ _ 28 rfl w.heap.size 9 i0 (.string ⟨#[]⟩) 1 16 Try.underlying28 hi hz0 hz1 hz2 rfl (by decide) _ _ _ rfl (hrow.alloc _) ⟨_, 0, none⟩ 1 1 [.string x] rfl rfl (cell_one_new _ _ _) (by simp [Value.oneCell']) (by unfold maxLen; omega) (by omega) (by simp; omega) ?_; intro v' w8 hown' hgrow _ hat; have H8 := H.app hown' hgrow hat)
        go_roundw
        case rel => exact ⟨k + 1, by omega, by go_num, by rw [HW.out]; unfold keysP; rw [List.length_append, strV_app]; exact H8⟩
        case measure => simp [intOf]; omega
    · obtain rfl : k = n := by omega
      have hwx : without (xs.take k) s = allR t1 := by rw [← hn, List.take_length, HL.out]
      rw [hwx] at H ⊢
      have H' := H.rot
      clear H hwx
      have hsm : (allR t1).length ≤ 200 := by
        rw [HL.out]
        exact Nat.le_trans (without_le _ _) (by omega)
      by_cases hc : (allR t1).length < k
      · obtain rfl : e1 = 0 := by
          have := HH.out
          rw [decide_eq_true hc] at this
          exact beq_iff_eq.1 this
        have hci : ((allR t1).length : Int) < (k : Int) := by omega
        clear HH HL
        go_wp2_with (first
          | (go_at_call 21; refine (all_is L H' b1 1000 (by decide) _ K2.out).mono ?_; clear H' K2; rintro e w9 ⟨vb, rfl, H⟩)
          | (go_at_call 20; refine (same_eq _ _ _ _ hn3 (holds_own H.q.2.1.1) (holds_own H.q.2.1.2.1.1)).mono ?_; rintro e w10 ⟨rfl, hg⟩; replace H := H.step hg; clear hg)
          | (go_at_call 12; refine (add_is L H m2 s hzM _ _ A2.out rfl).mono ?_; clear H; rintro e w11 ⟨rfl, own11, H⟩; have hB := H.below))
        go_ret
        exact ⟨by simp, hB⟩
      · have f1 : (e1 == 0) = false := by
          have := HH.out
          rwa [decide_eq_false hc] at this
        have hci : (k : Int) ≤ ((allR t1).length : Int) := by omega
        clear HH HL
        go_wp2_with (first
          | (go_at_call 21; refine (all_is L H' b1 1000 (by decide) _ K2.out).mono ?_; clear H' K2; rintro e w9 ⟨vb, rfl, H⟩)
          | (go_at_call 20; refine (same_eq _ _ _ _ hn3 (holds_own H.q.2.1.1) (holds_own H.q.2.1.2.1.1)).mono ?_; rintro e w10 ⟨rfl, hg⟩; replace H := H.step hg; clear hg)
          | (go_at_call 12; refine (add_is L H m2 s hzM _ _ A2.out rfl).mono ?_; clear H; rintro e w11 ⟨rfl, own11, H⟩; have hB := H.below))
        go_ret
        exact ⟨by simp, hB⟩
set_option maxRecDepth 100000 in
set_option maxHeartbeats 2000000 in
theorem slruLeaves_out (L : SlruLib Ls) (most : Int) (hm : I64 most) (s : ByteArray) (hz : s.size ≤ maxLen) {w : World} {a : Option Addr} {len cap : Nat} {os : List Op8} (h : OpsAt w a len cap os) (hS : ¬ (Short os ∧ s.size ≤ 300)) :
    Calls Try.prog 8 #[.int .i64 most, .slice a len cap, .string s] w fun e w' => e = .returned (.bool true) ∧ Below w.heap.size w w' := by
  have hB : Below w.heap.size w w := Below.refl _ _
  unfold maxLen at hz
  by_cases hs : Short os
  · have h3 : 300 < (s.size : Int) := by
      have : ¬ s.size ≤ 300 := fun h3 => hS ⟨hs, h3⟩
      omega
    clear hS
    go_enter Try.func8, Try.ntmps8
    go_wp2_with (first
      | (go_at_call 9; refine (awake_any L _).mono ?_; rintro e w1 ⟨rfl, hb⟩; replace hB := Bt hB hb; clear hb)
      | (go_at_call 10; refine (short_any (h.on hB)).mono ?_; rintro e w2 ⟨⟨q, rfl, hq⟩, hg⟩; obtain rfl : q = true := hq.2 hs; replace hB := gr_below hB hg (fun _ e => by cases e); clear hg hq)
      | (go_at_call 25; refine (played_is L (Law.ofBelow hB) most hm h).mono ?_; clear hB; rintro e w3 ⟨b, own, st, rfl, -, -, H⟩; have hB := H.below))
    go_ret
    exact ⟨rfl, hB⟩
  · clear hS
    go_enter Try.func8, Try.ntmps8
    go_wp2_with (first
      | (go_at_call 9; refine (awake_any L _).mono ?_; rintro e w1 ⟨rfl, hb⟩; replace hB := Bt hB hb; clear hb)
      | (go_at_call 10; refine (short_any (h.on hB)).mono ?_; rintro e w2 ⟨⟨q, rfl, hq⟩, hg⟩; obtain rfl : q = false := Bool.eq_false_iff.2 fun e => hs (hq.1 e); replace hB := gr_below hB hg (fun _ e => by cases e); clear hg hq)
      | (go_at_call 25; refine (played_is L (Law.ofBelow hB) most hm h).mono ?_; clear hB; rintro e w3 ⟨b, own, st, rfl, -, -, H⟩; have hB := H.below))
    go_ret
    exact ⟨rfl, hB⟩
theorem slruLeaves_walk (L : SlruLib Ls) (W : World) (a0 : Int) (w0 : (Lit.int .i64 a0).wf = true) (a1 : Option Addr) (len1 cap1 : Nat) (z1 : List Op8) (w1 : OpsAt W a1 len1 cap1 z1) (s2 : ByteArray) (w2 : s2.size ≤ 140737488351232) :
    Calls Try.prog 8 #[.int .i64 a0, .slice a1 len1 cap1, .string s2] W fun e W' => e = .returned (.bool true) ∧ Below W.heap.size W W' := by
  by_cases h : Short z1 ∧ s2.size ≤ 300
  · exact slruLeaves_in L a0 (i64_wf w0) s2 h.2 w1 h.1
  · exact slruLeaves_out L a0 (i64_wf w0) s2 (Nat.le_trans w2 (by decide)) w1 h
end Go.Proofs.Ytedfhikmlicbgaa
