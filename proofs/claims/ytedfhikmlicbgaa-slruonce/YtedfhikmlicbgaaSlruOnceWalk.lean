/- SlruOnce returns true for every number and all calls, and writes nothing that was there. Conditions: the contracts of package slru. -/
import Derived.Test.YtedfhikmlicbgaaSlruPlayed
namespace Go.Proofs.Ytedfhikmlicbgaa
open Go.RowKit Go.Shelf
variable {Ls : World → Nat → (Nat → Prop) → Sr → Prop}

set_option maxRecDepth 100000 in
set_option maxHeartbeats 4000000 in
theorem slruOnce_in (L : SlruLib Ls) (most : Int) (hm : I64 most) {w : World} {a : Option Addr} {len cap : Nat} {os : List Op8} (h : OpsAt w a len cap os) (hS : Short os) :
    Calls Try.prog 6 #[.int .i64 most, .slice a len cap] w fun e w' => e = .returned (.bool true) ∧ Below w.heap.size w w' := by
  have hl := h.len_
  have hlen : len ≤ 200 := by rw [← hl]; exact hS.1
  have hB : Below w.heap.size w w := Below.refl _ _
  go_enter Try.func6, Try.ntmps6
  go_wp2_with (first
    | (go_at_call 9; refine (awake_any L _).mono ?_; rintro e w1 ⟨rfl, hb⟩; replace hB := Bt hB hb; clear hb)
    | (go_at_call 10; refine (short_any (h.on hB)).mono ?_; rintro e w2 ⟨⟨q, rfl, hq⟩, hg⟩; obtain rfl : q = true := hq.2 hS; replace hB := gr_below hB hg (fun _ e => by cases e); clear hg hq)
    | (go_at_call 25; refine (played_is L (Law.ofBelow hB) most hm h).mono ?_; clear hB; rintro e w3 ⟨b, own, st, rfl, hs, hmo, H⟩; have hle : (allR st).length ≤ maxLen := Nat.le_trans hs h.2; have hbig : (allR st).length ≤ 1000 := (by omega); have K1 := hide (take_all (st := st) (by omega)))
    | (go_at_call 21; refine (all_is L H hbig 1000 (by decide) _ K1.out).mono ?_; clear H K1; rintro e w5 ⟨va, rfl, H⟩; obtain ⟨pa, ca, rfl⟩ := own_shape H.q.2.1.1; obtain ⟨hca, hcm⟩ := own_cap H.q.2.1.1; unfold maxLen at hcm))
  have hgood := H.good
  have hn := hgood.nodup
  have hmst := hgood.most
  rw [hmo] at hmst
  clear hgood hmo
  have hls : st.safe.length ≤ (allR st).length := by unfold allR; rw [List.length_append]; omega
  obtain ⟨n, hnn⟩ : ∃ n, (allR st).length = n := ⟨_, rfl⟩
  unfold keysP at H
  rw [hnn] at H hs hca hls ⊢
  go_loopw [9] (fun i wr => ∃ k : Nat, k ≤ n ∧ i = .int .i64 k ∧ Law w wr ((lsP L b own st).and ((rowP w.heap.size 9 1 (.slice pa n ca) n (strV (allR st))).and Part.emp))) (fun i _ => n - (intOf i).toNat)
  case atStart => exact ⟨0, Nat.zero_le _, rfl, H⟩
  case round =>
    clear H
    obtain ⟨k, hk, rfl, H⟩ := hrel
    by_cases hlt : k < n
    · go_wp2
      go_loopw [10] (fun i wr => ∃ j : Nat, j ≤ k ∧ i = .int .i64 j ∧ Law w wr ((lsP L b own st).and ((rowP w.heap.size 9 1 (.slice pa n ca) n (strV (allR st))).and Part.emp))) (fun i _ => k - (intOf i).toNat)
      case atStart => exact ⟨0, Nat.zero_le _, rfl, H⟩
      case round =>
        clear H
        obtain ⟨j, hj, rfl, H⟩ := hrel
        by_cases hjk : j < k
        · obtain ⟨g, rfl, c1⟩ := key_cell H.q.2.1.1 k (by omega) hnn
          obtain ⟨g', e', c2⟩ := key_cell H.q.2.1.1 j (by omega) hnn
          cases e'
          have hne := str_ne (fun e => Nat.ne_of_gt hjk ((List.getElem_inj hn).1 e) : (allR st)[k]'(by omega) ≠ (allR st)[j]'(by omega))
          generalize (allR st)[k]'(by omega) = x at *
          generalize (allR st)[j]'(by omega) = y at *
          go_wp2
          go_quiet (fail)
          go_wp2
          go_roundw
          case rel => exact ⟨j + 1, by omega, by go_num, H.drewN _⟩
          case measure => simp [intOf]; omega
        · have hkn : (k : Int) < (n : Int) := by omega
          go_wp2
          go_roundw
          case rel => exact ⟨k + 1, by omega, by go_num, H⟩
          case measure => simp [intOf]; omega
    · have hsn : (st.safe.length : Int) ≤ (n : Int) := by omega
      have HN : Hid (((allR st).length : Int) = (n : Int)) := by show _ = _; omega
      obtain ⟨ns, hns⟩ : ∃ m, st.safe.length = m := ⟨_, rfl⟩
      have HP : Hid ((st.safe.length : Int) = (ns : Int)) := by show _ = _; omega
      rw [hns] at hsn hmst hls
      clear hnn hns
      by_cases hm0 : (ns : Int) ≤ most
      · go_wp2_with (first
          | (go_at_call 23; refine (len_is L H hle _ HN.out).mono ?_; clear H; rintro e w6 ⟨rfl, H⟩)
          | (go_at_call 24; refine (prot_is L H hle _ HP.out).mono ?_; clear H; rintro e w7 ⟨rfl, H⟩; have hB := H.below))
        go_ret
        exact ⟨by simp, hB⟩
      · have hm1 : most < 0 := by omega
        obtain rfl : ns = 0 := by omega
        go_wp2_with (first
          | (go_at_call 23; refine (len_is L H hle _ HN.out).mono ?_; clear H; rintro e w6 ⟨rfl, H⟩)
          | (go_at_call 24; refine (prot_is L H hle _ HP.out).mono ?_; clear H; rintro e w7 ⟨rfl, H⟩; have hB := H.below))
        go_ret
        exact ⟨by simp, hB⟩
set_option maxRecDepth 100000 in
set_option maxHeartbeats 2000000 in
theorem slruOnce_out (L : SlruLib Ls) (most : Int) (hm : I64 most) {w : World} {a : Option Addr} {len cap : Nat} {os : List Op8} (h : OpsAt w a len cap os) (hS : ¬ Short os) :
    Calls Try.prog 6 #[.int .i64 most, .slice a len cap] w fun e w' => e = .returned (.bool true) ∧ Below w.heap.size w w' := by
  have hB : Below w.heap.size w w := Below.refl _ _
  go_enter Try.func6, Try.ntmps6
  go_wp2_with (first
    | (go_at_call 9; refine (awake_any L _).mono ?_; rintro e w1 ⟨rfl, hb⟩; replace hB := Bt hB hb; clear hb)
    | (go_at_call 10; refine (short_any (h.on hB)).mono ?_; rintro e w2 ⟨⟨q, rfl, hq⟩, hg⟩; obtain rfl : q = false := Bool.eq_false_iff.2 fun e => hS (hq.1 e); replace hB := gr_below hB hg (fun _ e => by cases e); clear hg hq)
    | (go_at_call 25; refine (played_is L (Law.ofBelow hB) most hm h).mono ?_; clear hB; rintro e w3 ⟨b, own, st, rfl, hs, hmo, H⟩; have hB := H.below))
  go_ret
  exact ⟨rfl, hB⟩
theorem slruOnce_walk (L : SlruLib Ls) (W : World) (a0 : Int) (w0 : (Lit.int .i64 a0).wf = true) (a1 : Option Addr) (len1 cap1 : Nat) (z1 : List Op8) (w1 : OpsAt W a1 len1 cap1 z1) :
    Calls Try.prog 6 #[.int .i64 a0, .slice a1 len1 cap1] W fun e W' => e = .returned (.bool true) ∧ Below W.heap.size W W' := by
  by_cases h : Short z1
  · exact slruOnce_in L a0 (i64_wf w0) w1 h
  · exact slruOnce_out L a0 (i64_wf w0) w1 h
end Go.Proofs.Ytedfhikmlicbgaa
