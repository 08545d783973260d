/- SlruLast returns true for every number, all calls and every key, and writes nothing that was there. Conditions: the contracts of package slru. -/
import Derived.Test.YtedfhikmlicbgaaSlruPlayed
import Derived.Deep.CutBlock
import Derived.Deep.CutRange
namespace Go.Proofs.Ytedfhikmlicbgaa
open Go.RowKit Go.Shelf
variable {Ls : World → Nat → (Nat → Prop) → Sr → Prop}

theorem add_mem (st : Sr) (s : ByteArray) : s ∈ allR (addR st s) := by
  by_cases h : s ∈ allR st
  · rw [(add_in h).2]
    exact h
  · rw [(add_out h).2]
    simp [allR]
/-- One that is new comes last of those on trial. -/
theorem add_last {st : Sr} {s : ByteArray} (h : addErr st s = 0) : 1 ≤ (allR (addR st s)).length - (addR st s).safe.length ∧ (allR (addR st s))[(allR (addR st s)).length - (addR st s).safe.length - 1]? = some s := by
  have hn : ¬ s ∈ allR st := fun hm => by rw [(add_in hm).1] at h; omega
  rw [(add_out hn).2]
  have e : allR ⟨st.most, st.trial ++ [s], st.safe⟩ = st.trial ++ s :: st.safe := by simp [allR]
  rw [e, List.length_append, List.length_cons]
  have e2 : st.trial.length + (st.safe.length + 1) - st.safe.length = st.trial.length + 1 := by omega
  show 1 ≤ st.trial.length + (st.safe.length + 1) - st.safe.length ∧ (st.trial ++ s :: st.safe)[st.trial.length + (st.safe.length + 1) - st.safe.length - 1]? = some s
  rw [e2]
  simp
/-- One that is hit comes last of all, if some may be protected. -/
theorem hit_last {st : Sr} {s : ByteArray} (h : s ∈ allR st) : (allR (hitR st s))[(allR (hitR st s)).length - 1]? = some s := by
  rw [all_hit h]
  simp
set_option maxRecDepth 100000 in
set_option maxHeartbeats 4000000 in
theorem slruLast_in (L : SlruLib Ls) (most : Int) (hm : I64 most) (s : ByteArray) (hz : s.size ≤ 300) {w : World} {a : Option Addr} {len cap : Nat} {os : List Op8} (h : OpsAt w a len cap os) (hS : Short os) :
    Calls Try.prog 7 #[.int .i64 most, .slice a len cap, .string s] w fun e w' => e = .returned (.bool true) ∧ Below w.heap.size w w' := by
  have hl := h.len_
  have hlen : len ≤ 200 := by rw [← hl]; exact hS.1
  have hzi : (s.size : Int) ≤ 300 := by omega
  have hM : (300 : Nat) < maxLen := by decide
  have hzM : s.size ≤ maxLen := by omega
  have hB : Below w.heap.size w w := Below.refl _ _
  go_enter Try.func7, Try.ntmps7
  go_upto_region 6 with (first
    | (go_at_call 9; refine (awake_any L _).mono ?_; rintro e w1 ⟨rfl, hb⟩; replace hB := Bt hB hb; clear hb)
    | (go_at_call 10; refine (short_any (h.on hB)).mono ?_; rintro e w2 ⟨⟨q, rfl, hq⟩, hg⟩; obtain rfl : q = true := hq.2 hS; replace hB := gr_below hB hg (fun _ e => by cases e); clear hg hq)
    | (go_at_call 25; refine (played_is L (Law.ofBelow hB) most hm h).mono ?_; clear hB; rintro e w3 ⟨b, own, st, rfl, hs, hmo, H⟩))
  have h1 := len_add st s
  obtain ⟨t1, T1⟩ : ∃ t, addR st s = t := ⟨_, rfl⟩
  obtain ⟨e1, E1⟩ : ∃ t, addErr st s = t := ⟨_, rfl⟩
  have hmem := add_mem st s
  have hgt := good_add H.good s
  have hal := fun h => add_last (st := st) (s := s) h
  rw [T1, E1] at hal
  rw [T1] at hmem h1 hgt
  obtain ⟨t2, T2⟩ : ∃ t, hitR t1 s = t := ⟨_, rfl⟩
  have hlh := hit_last hmem
  have hl2 := len_hit hgt s
  rw [T2] at hlh hl2
  have R1 := hide (rem_in hmem)
  have m0 : (allR st).length < maxLen := by omega
  have m1 : (allR t1).length ≤ maxLen := by omega
  have m2 : (allR t2).length ≤ maxLen := by omega
  have b1 : (allR t1).length ≤ 1000 := by omega
  have b2 : (allR t2).length ≤ 1000 := by omega
  have K1 := hide (take_all (st := t1) (by omega))
  have K2 := hide (take_all (st := t2) (by omega))
  have hls : t1.safe.length ≤ (allR t1).length := by unfold allR; rw [List.length_append]; omega
  obtain ⟨la, hla⟩ : ∃ n, (allR t1).length = n := ⟨_, rfl⟩
  obtain ⟨sf, hsf⟩ : ∃ n, t1.safe.length = n := ⟨_, rfl⟩
  have hla2 : (allR t2).length = la := by omega
  have hl1 : la ≤ 201 := by omega
  have hpos : 1 ≤ la := by
    have := List.length_pos_of_mem hmem
    omega
  rw [hla, hsf] at hal hls
  rw [hla2] at hlh
  have P1 : Hid ((t1.safe.length : Int) = (sf : Int)) := by show _ = _; omega
  have LA := hide hla
  have LB := hide hla2
  have HT1 := hide T1
  have HE1 := hide E1
  have HT2 := hide T2
  clear T1 E1 T2 hla hsf hla2 hl2 hmem hgt h1
  by_cases e0 : e1 = 0
  · obtain ⟨hal1, hal2⟩ := hal e0
    subst e0
    clear hal
    have g1 : (1 : Int) ≤ (la : Int) - (sf : Int) := by omega
    have hk : ((la : Int) - (sf : Int) - 1).toNat = la - sf - 1 := by omega
    have hk2 : ((la : Int) - 1).toNat = la - 1 := by omega
    by_cases hmost : most < 1
    · skip
      go_wp2_with (first
        | (go_at_call 12; refine (add_is L H m0 s hzM _ _ HE1.out HT1.out).mono ?_; clear H; rintro e w4 ⟨rfl, own4, H⟩)
        | (go_at_call 21; have t := K1; clear t; refine (all_is L H b1 1000 (by decide) _ K1.out).mono ?_; clear H K1; rintro e w5 ⟨va, rfl, H⟩; obtain ⟨pa, ca, rfl⟩ := own_shape H.q.2.1.1; obtain ⟨hca, hcm⟩ := own_cap H.q.2.1.1; unfold maxLen at hcm; unfold keysP at H; rw [LA.out] at H hca ⊢; obtain ⟨g, rfl, -⟩ := key_cell' H.q.2.1.1 _ _ hal2 LA.out)
        | (go_at_call 24; refine (prot_is L H m1 _ P1.out).mono ?_; clear H; rintro e w7 ⟨rfl, H⟩; obtain ⟨g', e', c1⟩ := key_cell' H.q.2.1.1 _ _ hal2 LA.out; cases e')
        | (go_at_call 14; refine (hit_is L H m1 s hzM _ _ R1.out HT2.out).mono ?_; clear H; rintro e w8 ⟨rfl, own8, H⟩)
        | (go_at_call 21; have t := K2; clear t; refine (all_is L H b2 1000 (by decide) _ K2.out).mono ?_; clear H K2; rintro e w9 ⟨vb, rfl, H⟩; obtain ⟨pb, cb, rfl⟩ := own_shape H.q.2.1.1; obtain ⟨hcb, hcm2⟩ := own_cap H.q.2.1.1; unfold maxLen at hcm2; unfold keysP at H; rw [LB.out] at H hcb ⊢; obtain ⟨g2, rfl, c2⟩ := key_cell' H.q.2.1.1 _ _ hlh LB.out; have hB := H.below))
      go_ret
      exact ⟨by simp, hB⟩
    · have hmost2 : 1 ≤ most := Int.not_lt.1 hmost
      clear hmost
      go_wp2_with (first
        | (go_at_call 12; refine (add_is L H m0 s hzM _ _ HE1.out HT1.out).mono ?_; clear H; rintro e w4 ⟨rfl, own4, H⟩)
        | (go_at_call 21; have t := K1; clear t; refine (all_is L H b1 1000 (by decide) _ K1.out).mono ?_; clear H K1; rintro e w5 ⟨va, rfl, H⟩; obtain ⟨pa, ca, rfl⟩ := own_shape H.q.2.1.1; obtain ⟨hca, hcm⟩ := own_cap H.q.2.1.1; unfold maxLen at hcm; unfold keysP at H; rw [LA.out] at H hca ⊢; obtain ⟨g, rfl, -⟩ := key_cell' H.q.2.1.1 _ _ hal2 LA.out)
        | (go_at_call 24; refine (prot_is L H m1 _ P1.out).mono ?_; clear H; rintro e w7 ⟨rfl, H⟩; obtain ⟨g', e', c1⟩ := key_cell' H.q.2.1.1 _ _ hal2 LA.out; cases e')
        | (go_at_call 14; refine (hit_is L H m1 s hzM _ _ R1.out HT2.out).mono ?_; clear H; rintro e w8 ⟨rfl, own8, H⟩)
        | (go_at_call 21; have t := K2; clear t; refine (all_is L H b2 1000 (by decide) _ K2.out).mono ?_; clear H K2; rintro e w9 ⟨vb, rfl, H⟩; obtain ⟨pb, cb, rfl⟩ := own_shape H.q.2.1.1; obtain ⟨hcb, hcm2⟩ := own_cap H.q.2.1.1; unfold maxLen at hcm2; unfold keysP at H; rw [LB.out] at H hcb ⊢; obtain ⟨g2, rfl, c2⟩ := key_cell' H.q.2.1.1 _ _ hlh LB.out; have hB := H.below))
      go_ret
      exact ⟨by simp, hB⟩
  · have f1 : (e1 == 0) = false := beq_eq_false_iff_ne.2 e0
    have hk2 : ((la : Int) - 1).toNat = la - 1 := by omega
    clear hal e0
    by_cases hmost : most < 1
    · skip
      go_wp2_with (first
        | (go_at_call 12; refine (add_is L H m0 s hzM _ _ HE1.out HT1.out).mono ?_; clear H; rintro e w4 ⟨rfl, own4, H⟩)
        | (go_at_call 21; have t := K1; clear t; refine (all_is L H b1 1000 (by decide) _ K1.out).mono ?_; clear H K1; rintro e w5 ⟨va, rfl, H⟩; obtain ⟨pa, ca, rfl⟩ := own_shape H.q.2.1.1; obtain ⟨hca, hcm⟩ := own_cap H.q.2.1.1; unfold maxLen at hcm; unfold keysP at H; rw [LA.out] at H hca ⊢)
        | (go_at_call 24; refine (prot_is L H m1 _ P1.out).mono ?_; clear H; rintro e w7 ⟨rfl, H⟩)
        | (go_at_call 14; refine (hit_is L H m1 s hzM _ _ R1.out HT2.out).mono ?_; clear H; rintro e w8 ⟨rfl, own8, H⟩)
        | (go_at_call 21; have t := K2; clear t; refine (all_is L H b2 1000 (by decide) _ K2.out).mono ?_; clear H K2; rintro e w9 ⟨vb, rfl, H⟩; obtain ⟨pb, cb, rfl⟩ := own_shape H.q.2.1.1; obtain ⟨hcb, hcm2⟩ := own_cap H.q.2.1.1; unfold maxLen at hcm2; unfold keysP at H; rw [LB.out] at H hcb ⊢; obtain ⟨g2, rfl, c2⟩ := key_cell' H.q.2.1.1 _ _ hlh LB.out; have hB := H.below))
      go_ret
      exact ⟨by simp, hB⟩
    · have hmost2 : 1 ≤ most := Int.not_lt.1 hmost
      clear hmost
      go_wp2_with (first
        | (go_at_call 12; refine (add_is L H m0 s hzM _ _ HE1.out HT1.out).mono ?_; clear H; rintro e w4 ⟨rfl, own4, H⟩)
        | (go_at_call 21; have t := K1; clear t; refine (all_is L H b1 1000 (by decide) _ K1.out).mono ?_; clear H K1; rintro e w5 ⟨va, rfl, H⟩; obtain ⟨pa, ca, rfl⟩ := own_shape H.q.2.1.1; obtain ⟨hca, hcm⟩ := own_cap H.q.2.1.1; unfold maxLen at hcm; unfold keysP at H; rw [LA.out] at H hca ⊢)
        | (go_at_call 24; refine (prot_is L H m1 _ P1.out).mono ?_; clear H; rintro e w7 ⟨rfl, H⟩)
        | (go_at_call 14; refine (hit_is L H m1 s hzM _ _ R1.out HT2.out).mono ?_; clear H; rintro e w8 ⟨rfl, own8, H⟩)
        | (go_at_call 21; have t := K2; clear t; refine (all_is L H b2 1000 (by decide) _ K2.out).mono ?_; clear H K2; rintro e w9 ⟨vb, rfl, H⟩; obtain ⟨pb, cb, rfl⟩ := own_shape H.q.2.1.1; obtain ⟨hcb, hcm2⟩ := own_cap H.q.2.1.1; unfold maxLen at hcm2; unfold keysP at H; rw [LB.out] at H hcb ⊢; obtain ⟨g2, rfl, c2⟩ := key_cell' H.q.2.1.1 _ _ hlh LB.out; have hB := H.below))
      go_ret
      exact ⟨by simp, hB⟩
set_option maxRecDepth 100000 in
set_option maxHeartbeats 2000000 in
theorem slruLast_out (L : SlruLib Ls) (most : Int) (hm : I64 most) (s : ByteArray) (hz : s.size ≤ maxLen) {w : World} {a : Option Addr} {len cap : Nat} {os : List Op8} (h : OpsAt w a len cap os) (hS : ¬ (Short os ∧ s.size ≤ 300)) :
    Calls Try.prog 7 #[.int .i64 most, .slice a len cap, .string s] w fun e w' => e = .returned (.bool true) ∧ Below w.heap.size w w' := by
  have hB : Below w.heap.size w w := Below.refl _ _
  unfold maxLen at hz
  by_cases hs : Short os
  · have h3 : 300 < (s.size : Int) := by
      have : ¬ s.size ≤ 300 := fun h3 => hS ⟨hs, h3⟩
      omega
    clear hS
    go_enter Try.func7, Try.ntmps7
    go_wp2_with (first
      | (go_at_call 9; refine (awake_any L _).mono ?_; rintro e w1 ⟨rfl, hb⟩; replace hB := Bt hB hb; clear hb)
      | (go_at_call 10; refine (short_any (h.on hB)).mono ?_; rintro e w2 ⟨⟨q, rfl, hq⟩, hg⟩; obtain rfl : q = true := hq.2 hs; replace hB := gr_below hB hg (fun _ e => by cases e); clear hg hq)
      | (go_at_call 25; refine (played_is L (Law.ofBelow hB) most hm h).mono ?_; clear hB; rintro e w3 ⟨b, own, st, rfl, -, -, H⟩; have hB := H.below))
    go_ret
    exact ⟨rfl, hB⟩
  · clear hS
    go_enter Try.func7, Try.ntmps7
    go_wp2_with (first
      | (go_at_call 9; refine (awake_any L _).mono ?_; rintro e w1 ⟨rfl, hb⟩; replace hB := Bt hB hb; clear hb)
      | (go_at_call 10; refine (short_any (h.on hB)).mono ?_; rintro e w2 ⟨⟨q, rfl, hq⟩, hg⟩; obtain rfl : q = false := Bool.eq_false_iff.2 fun e => hs (hq.1 e); replace hB := gr_below hB hg (fun _ e => by cases e); clear hg hq)
      | (go_at_call 25; refine (played_is L (Law.ofBelow hB) most hm h).mono ?_; clear hB; rintro e w3 ⟨b, own, st, rfl, -, -, H⟩; have hB := H.below))
    go_ret
    exact ⟨rfl, hB⟩
theorem slruLast_walk (L : SlruLib Ls) (W : World) (a0 : Int) (w0 : (Lit.int .i64 a0).wf = true) (a1 : Option Addr) (len1 cap1 : Nat) (z1 : List Op8) (w1 : OpsAt W a1 len1 cap1 z1) (s2 : ByteArray) (w2 : s2.size ≤ 140737488351232) :
    Calls Try.prog 7 #[.int .i64 a0, .slice a1 len1 cap1, .string s2] W fun e W' => e = .returned (.bool true) ∧ Below W.heap.size W W' := by
  by_cases h : Short z1 ∧ s2.size ≤ 300
  · exact slruLast_in L a0 (i64_wf w0) s2 h.2 w1 h.1
  · exact slruLast_out L a0 (i64_wf w0) s2 (Nat.le_trans w2 (by decide)) w1 h
end Go.Proofs.Ytedfhikmlicbgaa
