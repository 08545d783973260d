/- TableStops returns true for every seed, all calls and every number, and writes nothing that was there. Conditions: the contracts of package table. -/
import Derived.Test.YtncblaofgdcfmaaTableAll
import Derived.Deep.RegionHeldLaw
import Derived.Deep.CutBlock
import Derived.Deep.CutRange
namespace Go.Proofs.Ytncblaofgdcfmaa
open Go.RowKit Go.Shelf
variable {Tb : World → Nat → (Nat → Prop) → Ts → Prop}

theorem take_all {st : Ts} (h : st.l.length ≤ 1000) : st.l.take (1000 : Int).toNat = st.l := List.take_of_length_le h
set_option maxRecDepth 100000 in
set_option maxHeartbeats 4000000 in
theorem tableStops_in (L : TableLib Tb) (sd : Nat) (hd : sd < 18446744073709551616) (n : Nat) (hn : n ≤ 400) {w : World} {a : Option Addr} {len cap : Nat} {os : List Op9} (h : OpsAt w a len cap os) (hS : Short os) :
    Calls Try.prog 7 #[.int .u64 sd, .slice a len cap, .int .i64 n] w fun e w' => e = .returned (.bool true) ∧ Below w.heap.size w w' := by
  have hl := h.len_
  have hlen : len ≤ 300 := by rw [← hl]; exact hS.1
  have hni : (n : Int) ≤ 400 := by omega
  have hB : Below w.heap.size w w := Below.refl _ _
  go_enter Try.func7, Try.ntmps7
  go_wp2_with (first
    | (go_at_call 8; refine (awake_any L _).mono ?_; rintro e w1 ⟨rfl, hb⟩; replace hB := Bt hB hb; clear hb)
    | (go_at_call 9; refine (short_any (h.on hB)).mono ?_; rintro e w2 ⟨⟨q, rfl, hq⟩, hg⟩; obtain rfl : q = true := hq.2 hS; replace hB := gr_below hB hg (fun _ e => by cases e); clear hg hq)
    | (go_at_call 10; refine (new_is L (Law.ofBelow hB) sd hd).mono ?_; clear hB; rintro e w3 ⟨b, own, rfl, H⟩))
  go_loopw [10] (fun i wr => ∃ (k : Nat) (own : Nat → Prop) (st : Ts), k ≤ len ∧ i = .int .i64 k ∧ SmallT st k ∧ Law w wr ((tbP L b own st).and Part.emp)) (fun i _ => len - (intOf i).toNat)
  case atStart => exact ⟨0, own, freshT, Nat.zero_le _, rfl, smallT_fresh, H⟩
  case round =>
    clear H
    obtain ⟨k, own, st, hk, rfl, hs, H⟩ := hrel
    have hsm : SmallT st 5000 := smallT_mono hs (by omega)
    by_cases hlt : k < len
    · obtain ⟨ca, off, rfl, hcell, hok⟩ := h.at k (by omega)
      have hk3 : os[k].key.size ≤ 300 := hS.2 _ (List.getElem_mem _)
      have hvi := hok.v
      have hki : (k : Int) < (len : Int) := by omega
      have H1 := H.drew
      have c1 := (hcell.on (Nat.le_refl _) H1.below).key
      have c2 := (hcell.on (Nat.le_refl _) H1.below).v
      have HC := hide hcell
      have S1 := hide (smallT_put hs os[k].key os[k].v)
      clear hok hcell H
      go_upto_region 9 with fail
      go_region_held (fun w' => w'.cell? ⟨ca, off + k * 3 + 1, none⟩ = some (.string os[k].key) ∧ w'.cell? ⟨ca, off + k * 3 + 2, none⟩ = some (.int .i64 os[k].v)) (first | exact ⟨c3, c4⟩ | exact ⟨c1, c2⟩) ((go_at_call 12; refine (put_is L H1 hsm _ hk3 _ hvi _ rfl).mono ?_; rintro e w4 ⟨⟨x, rfl⟩, own4, H4⟩; have c3 := (HC.out.on (Nat.le_refl _) H4.below).key; have c4 := (HC.out.on (Nat.le_refl _) H4.below).v))
      go_wp2
      go_roundw
      case rel => exact ⟨k + 1, own4, _, by omega, by go_num, S1.out, H4⟩
      case measure => simp [intOf]; omega
    · have hxl : st.l.length ≤ 300 := Nat.le_trans hs.len (by omega)
      have K1 := hide (take_all (st := st) (by omega))
      obtain ⟨m, hmn⟩ : ∃ m, m = min n st.l.length := ⟨_, rfl⟩
      have hm1 : m ≤ st.l.length := by omega
      have K2 : Hid (st.l.take (n : Int).toNat = st.l.take m) := by
        show _ = _
        rw [hmn, Int.toNat_natCast]
        rcases Nat.le_total n st.l.length with h1 | h1
        · rw [Nat.min_eq_left h1]
        · rw [Nat.min_eq_right h1, List.take_length, List.take_of_length_le h1]
      have hl3 : (st.l.take m).length ≤ 140737488351232 := by rw [List.length_take]; omega
      clear hs
      by_cases hc : st.l.length < n
      · have hci : (st.l.length : Int) < (n : Int) := by omega
        have hme : st.l.length = m := by omega
        clear hmn
        subst hme
        go_wp2_with (first
          | (go_at_call 20; refine (left_is L H hsm _ rfl).mono ?_; rintro e w4 ⟨rfl, H4⟩; replace H := H4; clear H4)
          | (go_at_call 19; refine (buckets_is L H hsm _ rfl).mono ?_; rintro e w5 ⟨rfl, H5⟩; replace H := H5; clear H5)
          | (go_at_call 22; have t := K1; clear t; refine (all_is L H hsm 1000 (by decide) _ K1.out).mono ?_; clear H K1; rintro e w6 ⟨va, rfl, H⟩; obtain ⟨pa, ca, rfl⟩ := own_shape H.q.2.1.1; obtain ⟨hca, hcm⟩ := own_cap H.q.2.1.1; unfold maxLen at hcm)
          | (go_at_call 22; have t := K2; clear t; refine (all_is L H hsm n (by omega) _ K2.out).mono ?_; clear H K2; rintro e w7 ⟨vb, rfl, H⟩)
          | (go_at_call 21; refine (same_eq _ _ _ _ hl3 (pairs_take (pairs_own H.q.2.1.2.1.1) _ hm1) (pairs_own H.q.2.1.1)).mono ?_; rintro e w8 ⟨rfl, hg⟩; replace H := H.step hg; clear hg)
          | (go_at_call 18; refine (len_is L H hsm _ rfl).mono ?_; clear H; rintro e w9 ⟨rfl, H⟩; have hB := H.below))
        go_ret
        exact ⟨by simp, hB⟩
      · have hci : (n : Int) ≤ (st.l.length : Int) := by omega
        have hme : n = m := by omega
        clear hmn
        subst hme
        go_wp2_with (first
          | (go_at_call 20; refine (left_is L H hsm _ rfl).mono ?_; rintro e w4 ⟨rfl, H4⟩; replace H := H4; clear H4)
          | (go_at_call 19; refine (buckets_is L H hsm _ rfl).mono ?_; rintro e w5 ⟨rfl, H5⟩; replace H := H5; clear H5)
          | (go_at_call 22; have t := K1; clear t; refine (all_is L H hsm 1000 (by decide) _ K1.out).mono ?_; clear H K1; rintro e w6 ⟨va, rfl, H⟩; obtain ⟨pa, ca, rfl⟩ := own_shape H.q.2.1.1; obtain ⟨hca, hcm⟩ := own_cap H.q.2.1.1; unfold maxLen at hcm)
          | (go_at_call 22; have t := K2; clear t; refine (all_is L H hsm n (by omega) _ K2.out).mono ?_; clear H K2; rintro e w7 ⟨vb, rfl, H⟩)
          | (go_at_call 21; refine (same_eq _ _ _ _ hl3 (pairs_take (pairs_own H.q.2.1.2.1.1) _ hm1) (pairs_own H.q.2.1.1)).mono ?_; rintro e w8 ⟨rfl, hg⟩; replace H := H.step hg; clear hg)
          | (go_at_call 18; refine (len_is L H hsm _ rfl).mono ?_; clear H; rintro e w9 ⟨rfl, H⟩; have hB := H.below))
        go_ret
        exact ⟨by simp, hB⟩
set_option maxRecDepth 100000 in
set_option maxHeartbeats 2000000 in
theorem tableStops_out (L : TableLib Tb) (sd : Nat) (hd : sd < 18446744073709551616) (n : Int) {w : World} {a : Option Addr} {len cap : Nat} {os : List Op9} (h : OpsAt w a len cap os) (hS : ¬ (Short os ∧ 0 ≤ n ∧ n ≤ 400)) :
    Calls Try.prog 7 #[.int .u64 sd, .slice a len cap, .int .i64 n] w fun e w' => e = .returned (.bool true) ∧ Below w.heap.size w w' := by
  have hB : Below w.heap.size w w := Below.refl _ _
  by_cases hs : Short os
  · by_cases h0 : n < 0
    · clear hS
      go_enter Try.func7, Try.ntmps7
      go_wp2_with (first
        | (go_at_call 8; refine (awake_any L _).mono ?_; rintro e w1 ⟨rfl, hb⟩; replace hB := Bt hB hb; clear hb)
        | (go_at_call 9; refine (short_any (h.on hB)).mono ?_; rintro e w2 ⟨⟨q, rfl, hq⟩, hg⟩; obtain rfl : q = true := hq.2 hs; replace hB := gr_below hB hg (fun _ e => by cases e); clear hg hq)
        | (go_at_call 10; refine (new_is L (Law.ofBelow hB) sd hd).mono ?_; clear hB; rintro e w3 ⟨b, own, rfl, H⟩; have hB := H.below))
      go_ret
      exact ⟨rfl, hB⟩
    · have h3 : 400 < n := Int.not_le.1 fun h3 => hS ⟨hs, Int.not_lt.1 h0, h3⟩
      have h1 : 0 ≤ n := Int.not_lt.1 h0
      clear hS h0
      go_enter Try.func7, Try.ntmps7
      go_wp2_with (first
        | (go_at_call 8; refine (awake_any L _).mono ?_; rintro e w1 ⟨rfl, hb⟩; replace hB := Bt hB hb; clear hb)
        | (go_at_call 9; refine (short_any (h.on hB)).mono ?_; rintro e w2 ⟨⟨q, rfl, hq⟩, hg⟩; obtain rfl : q = true := hq.2 hs; replace hB := gr_below hB hg (fun _ e => by cases e); clear hg hq)
        | (go_at_call 10; refine (new_is L (Law.ofBelow hB) sd hd).mono ?_; clear hB; rintro e w3 ⟨b, own, rfl, H⟩; have hB := H.below))
      go_ret
      exact ⟨rfl, hB⟩
  · clear hS
    go_enter Try.func7, Try.ntmps7
    go_wp2_with (first
      | (go_at_call 8; refine (awake_any L _).mono ?_; rintro e w1 ⟨rfl, hb⟩; replace hB := Bt hB hb; clear hb)
      | (go_at_call 9; refine (short_any (h.on hB)).mono ?_; rintro e w2 ⟨⟨q, rfl, hq⟩, hg⟩; obtain rfl : q = false := Bool.eq_false_iff.2 fun e => hs (hq.1 e); replace hB := gr_below hB hg (fun _ e => by cases e); clear hg hq)
      | (go_at_call 10; refine (new_is L (Law.ofBelow hB) sd hd).mono ?_; clear hB; rintro e w3 ⟨b, own, rfl, H⟩; have hB := H.below))
    go_ret
    exact ⟨rfl, hB⟩
theorem tableStops_walk (L : TableLib Tb) (W : World) (a0 : Int) (w0 : (Lit.int .u64 a0).wf = true) (a1 : Option Addr) (len1 cap1 : Nat) (z1 : List Op9) (w1 : OpsAt W a1 len1 cap1 z1) (a2 : Int) (_w2 : (Lit.int .i64 a2).wf = true) :
    Calls Try.prog 7 #[.int .u64 a0, .slice a1 len1 cap1, .int .i64 a2] W fun e W' => e = .returned (.bool true) ∧ Below W.heap.size W W' := by
  obtain ⟨h0, h1⟩ := u64_wf w0
  obtain ⟨sd, rfl⟩ := Int.eq_ofNat_of_zero_le h0
  by_cases h : Short z1 ∧ 0 ≤ a2 ∧ a2 ≤ 400
  · obtain ⟨n, rfl⟩ := Int.eq_ofNat_of_zero_le h.2.1
    exact tableStops_in L sd (by omega) n (by have := h.2.2; omega) w1 h.1
  · exact tableStops_out L sd (by omega) a2 w1 h
end Go.Proofs.Ytncblaofgdcfmaa
