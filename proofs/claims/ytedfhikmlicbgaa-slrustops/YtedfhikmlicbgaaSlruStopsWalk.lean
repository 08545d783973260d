/- SlruStops returns true for every number, all calls and every number of keys, and writes nothing that was there. Conditions: the contracts of package slru. -/
import Derived.Test.YtedfhikmlicbgaaSlruAll
namespace Go.Proofs.Ytedfhikmlicbgaa
open Go.RowKit Go.Shelf
variable {Ls : World → Nat → (Nat → Prop) → Sr → Prop}

set_option maxRecDepth 100000 in
set_option maxHeartbeats 4000000 in
theorem slruStops_in (L : SlruLib Ls) (most : Int) (hm : I64 most) (n : Nat) (hn : n ≤ 300) {w : World} {a : Option Addr} {len cap : Nat} {os : List Op8} (h : OpsAt w a len cap os) (hS : Short os) :
    Calls Try.prog 4 #[.int .i64 most, .slice a len cap, .int .i64 n] w fun e w' => e = .returned (.bool true) ∧ Below w.heap.size w w' := by
  have hl := h.len_
  have hlen : len ≤ 200 := by rw [← hl]; exact hS.1
  have hni : (n : Int) ≤ 300 := by omega
  have hB : Below w.heap.size w w := Below.refl _ _
  go_enter Try.func4, Try.ntmps4
  go_wp2_with (first
    | (go_at_call 9; refine (awake_any L _).mono ?_; rintro e w1 ⟨rfl, hb⟩; replace hB := Bt hB hb; clear hb)
    | (go_at_call 10; refine (short_any (h.on hB)).mono ?_; rintro e w2 ⟨⟨q, rfl, hq⟩, hg⟩; obtain rfl : q = true := hq.2 hS; replace hB := gr_below hB hg (fun _ e => by cases e); clear hg hq)
    | (go_at_call 11; refine (new_is L (Law.ofBelow hB) most hm).mono ?_; clear hB; rintro e w3 ⟨b, own, rfl, H⟩))
  go_loopw [10] (fun i wr => ∃ (k : Nat) (own : Nat → Prop) (st : Sr), k ≤ len ∧ i = .int .i64 k ∧ (allR st).length ≤ k ∧ Law w wr ((lsP L b own st).and Part.emp)) (fun i _ => len - (intOf i).toNat)
  case atStart => exact ⟨0, own, freshR most, Nat.zero_le _, rfl, Nat.zero_le _, H⟩
  case round =>
    clear H
    obtain ⟨k, own, st, hk, rfl, hs, H⟩ := hrel
    have hM : (200 : Nat) < maxLen := by decide
    by_cases hlt : k < len
    · obtain ⟨ca, off, rfl, hcell, hok⟩ := h.at k (by omega)
      have c0 := (hcell.on (Nat.le_refl _) H.below).kd
      have c1 := (hcell.on (Nat.le_refl _) H.below).key
      have hki : (k : Int) < (len : Int) := by omega
      have hks := hok.key
      have hlt1 : (allR st).length < maxLen := by omega
      have A1 := hide (Nat.le_trans (len_add st os[k].key) (Nat.succ_le_succ hs))
      have A2 := hide (Nat.le_trans (Nat.le_of_eq (len_hit H.good os[k].key)) (Nat.le_succ_of_le hs))
      generalize os[k].key = s at *
      generalize os[k].kd = kd at *
      clear hcell hok
      by_cases e1 : kd = 1
      · subst e1
        go_wp2_with (go_at_call 14; refine (hit_is L H (Nat.le_of_lt hlt1) s hks _ _ rfl rfl).mono ?_; rintro e w2 ⟨rfl, own2, H2⟩)
        go_roundw
        case rel => exact ⟨k + 1, own2, _, by omega, by go_num, A2.out, H2⟩
        case measure => simp [intOf]; omega
      · have f1 : (kd == 1) = false := beq_eq_false_iff_ne.2 e1
        clear e1
        go_wp2_with (go_at_call 12; refine (add_is L H hlt1 s hks _ _ rfl rfl).mono ?_; rintro e w2 ⟨rfl, own2, H2⟩)
        go_roundw
        case rel => exact ⟨k + 1, own2, _, by omega, by go_num, A1.out, H2⟩
        case measure => simp [intOf]; omega
    · have hle : (allR st).length ≤ maxLen := by omega
      have hbig : (allR st).length ≤ 1000 := by omega
      have hxl : (allR st).length ≤ 200 := by omega
      have K1 := hide (take_all (st := st) (by omega))
      have K3 := K1
      obtain ⟨m, hmn⟩ : ∃ m, m = min n (allR st).length := ⟨_, rfl⟩
      have hm1 : m ≤ (allR st).length := by omega
      have K2 : Hid ((allR st).take (n : Int).toNat = (allR st).take m) := by
        show _ = _
        rw [hmn, Int.toNat_natCast]
        rcases Nat.le_total n (allR st).length with h1 | h1
        · rw [Nat.min_eq_left h1]
        · rw [Nat.min_eq_right h1, List.take_length, List.take_of_length_le h1]
      have hl2 : (allR st).length ≤ 140737488351232 := by omega
      have hl3 : ((allR st).take m).length ≤ 140737488351232 := by rw [List.length_take]; omega

      clear hs
      by_cases hc : (allR st).length < n
      · have hci : ((allR st).length : Int) < (n : Int) := by omega
        have hme : (allR st).length = m := by omega
        clear hmn
        subst hme
        go_wp2_with (first
          | (go_at_call 21; have t := K1; clear t; refine (all_is L H hbig 1000 (by decide) _ K1.out).mono ?_; clear H K1; rintro e w5 ⟨va, rfl, H⟩; obtain ⟨pa, ca, rfl⟩ := own_shape H.q.2.1.1; obtain ⟨hca, hcm⟩ := own_cap H.q.2.1.1; unfold maxLen at hcm)
          | (go_at_call 21; have t := K2; clear t; refine (all_is L H hbig n (by omega) _ K2.out).mono ?_; clear H K2; rintro e w6 ⟨vb, rfl, H⟩)
          | (go_at_call 20; have t := K3; clear t; refine (same_eq _ _ _ _ hl3 (holds_own H.q.2.1.1) (holds_take (holds_own H.q.2.1.2.1.1) _ hm1)).mono ?_; rintro e w7 ⟨rfl, hg⟩; replace H := H.step hg; clear hg)
          | (go_at_call 21; have t := K3; clear t; refine (all_is L H hbig 1000 (by decide) _ K3.out).mono ?_; clear H K3; rintro e w8 ⟨vc, rfl, H⟩)
          | (go_at_call 20; refine (same_eq _ _ _ _ hl2 (holds_own H.q.2.1.1) (holds_own H.q.2.1.2.1.2.1.1)).mono ?_; rintro e w9 ⟨rfl, hg⟩; replace H := H.step hg; clear hg)
          | (go_at_call 23; refine (len_is L H hle _ rfl).mono ?_; clear H; rintro e w10 ⟨rfl, H⟩; have hB := H.below))
        go_ret
        exact ⟨by simp, hB⟩
      · have hci : (n : Int) ≤ ((allR st).length : Int) := by omega
        have hme : n = m := by omega
        clear hmn
        subst hme
        go_wp2_with (first
          | (go_at_call 21; have t := K1; clear t; refine (all_is L H hbig 1000 (by decide) _ K1.out).mono ?_; clear H K1; rintro e w5 ⟨va, rfl, H⟩; obtain ⟨pa, ca, rfl⟩ := own_shape H.q.2.1.1; obtain ⟨hca, hcm⟩ := own_cap H.q.2.1.1; unfold maxLen at hcm)
          | (go_at_call 21; have t := K2; clear t; refine (all_is L H hbig n (by omega) _ K2.out).mono ?_; clear H K2; rintro e w6 ⟨vb, rfl, H⟩)
          | (go_at_call 20; have t := K3; clear t; refine (same_eq _ _ _ _ hl3 (holds_own H.q.2.1.1) (holds_take (holds_own H.q.2.1.2.1.1) _ hm1)).mono ?_; rintro e w7 ⟨rfl, hg⟩; replace H := H.step hg; clear hg)
          | (go_at_call 21; have t := K3; clear t; refine (all_is L H hbig 1000 (by decide) _ K3.out).mono ?_; clear H K3; rintro e w8 ⟨vc, rfl, H⟩)
          | (go_at_call 20; refine (same_eq _ _ _ _ hl2 (holds_own H.q.2.1.1) (holds_own H.q.2.1.2.1.2.1.1)).mono ?_; rintro e w9 ⟨rfl, hg⟩; replace H := H.step hg; clear hg)
          | (go_at_call 23; refine (len_is L H hle _ rfl).mono ?_; clear H; rintro e w10 ⟨rfl, H⟩; have hB := H.below))
        go_ret
        exact ⟨by simp, hB⟩
set_option maxRecDepth 100000 in
set_option maxHeartbeats 2000000 in
theorem slruStops_out (L : SlruLib Ls) (most : Int) (hm : I64 most) (n : Int) {w : World} {a : Option Addr} {len cap : Nat} {os : List Op8} (h : OpsAt w a len cap os) (hS : ¬ (Short os ∧ 0 ≤ n ∧ n ≤ 300)) :
    Calls Try.prog 4 #[.int .i64 most, .slice a len cap, .int .i64 n] w fun e w' => e = .returned (.bool true) ∧ Below w.heap.size w w' := by
  have hB : Below w.heap.size w w := Below.refl _ _
  by_cases hs : Short os
  · by_cases h0 : n < 0
    · clear hS
      go_enter Try.func4, Try.ntmps4
      go_wp2_with (first
        | (go_at_call 9; refine (awake_any L _).mono ?_; rintro e w1 ⟨rfl, hb⟩; replace hB := Bt hB hb; clear hb)
        | (go_at_call 10; refine (short_any (h.on hB)).mono ?_; rintro e w2 ⟨⟨q, rfl, hq⟩, hg⟩; obtain rfl : q = true := hq.2 hs; replace hB := gr_below hB hg (fun _ e => by cases e); clear hg hq)
        | (go_at_call 11; refine (new_is L (Law.ofBelow hB) most hm).mono ?_; clear hB; rintro e w3 ⟨b, own, rfl, H⟩; have hB := H.below))
      go_ret
      exact ⟨rfl, hB⟩
    · have h3 : 300 < n := Int.not_le.1 fun h3 => hS ⟨hs, Int.not_lt.1 h0, h3⟩
      have h1 : 0 ≤ n := Int.not_lt.1 h0
      clear hS h0
      go_enter Try.func4, Try.ntmps4
      go_wp2_with (first
        | (go_at_call 9; refine (awake_any L _).mono ?_; rintro e w1 ⟨rfl, hb⟩; replace hB := Bt hB hb; clear hb)
        | (go_at_call 10; refine (short_any (h.on hB)).mono ?_; rintro e w2 ⟨⟨q, rfl, hq⟩, hg⟩; obtain rfl : q = true := hq.2 hs; replace hB := gr_below hB hg (fun _ e => by cases e); clear hg hq)
        | (go_at_call 11; refine (new_is L (Law.ofBelow hB) most hm).mono ?_; clear hB; rintro e w3 ⟨b, own, rfl, H⟩; have hB := H.below))
      go_ret
      exact ⟨rfl, hB⟩
  · clear hS
    go_enter Try.func4, Try.ntmps4
    go_wp2_with (first
      | (go_at_call 9; refine (awake_any L _).mono ?_; rintro e w1 ⟨rfl, hb⟩; replace hB := Bt hB hb; clear hb)
      | (go_at_call 10; refine (short_any (h.on hB)).mono ?_; rintro e w2 ⟨⟨q, rfl, hq⟩, hg⟩; obtain rfl : q = false := Bool.eq_false_iff.2 fun e => hs (hq.1 e); replace hB := gr_below hB hg (fun _ e => by cases e); clear hg hq)
      | (go_at_call 11; refine (new_is L (Law.ofBelow hB) most hm).mono ?_; clear hB; rintro e w3 ⟨b, own, rfl, H⟩; have hB := H.below))
    go_ret
    exact ⟨rfl, hB⟩
theorem slruStops_walk (L : SlruLib Ls) (W : World) (a0 : Int) (w0 : (Lit.int .i64 a0).wf = true) (a1 : Option Addr) (len1 cap1 : Nat) (z1 : List Op8) (w1 : OpsAt W a1 len1 cap1 z1) (a2 : Int) (_w2 : (Lit.int .i64 a2).wf = true) :
    Calls Try.prog 4 #[.int .i64 a0, .slice a1 len1 cap1, .int .i64 a2] W fun e W' => e = .returned (.bool true) ∧ Below W.heap.size W W' := by
  by_cases h : Short z1 ∧ 0 ≤ a2 ∧ a2 ≤ 300
  · obtain ⟨n, rfl⟩ := Int.eq_ofNat_of_zero_le h.2.1
    exact slruStops_in L a0 (i64_wf w0) n (by have := h.2.2; omega) w1 h.1
  · exact slruStops_out L a0 (i64_wf w0) a2 w1 h
end Go.Proofs.Ytedfhikmlicbgaa
