/- TableLast returns true for every seed, all calls, any two texts and every number, and writes nothing that was there. Conditions: the contracts of package table. -/
import Derived.Test.YtncblaofgdcfmaaTableAll
import Derived.Deep.RegionHeldLaw
import Derived.Deep.CutBlock
import Derived.Deep.CutRange
namespace Go.Proofs.Ytncblaofgdcfmaa
open Go.RowKit Go.Shelf
variable {Tb : World → Nat → (Nat → Prop) → Ts → Prop}

set_option maxRecDepth 100000 in
set_option maxHeartbeats 4000000 in
theorem tableLast_in (L : TableLib Tb) (sd : Nat) (hd : sd < 18446744073709551616) (s : ByteArray) (hz : s.size ≤ 300) (v : Int) (hv : I64 v) (o : ByteArray) (ho : o.size ≤ 300) (hne : s ≠ o) {w : World} {a : Option Addr} {len cap : Nat} {os : List Op9} (h : OpsAt w a len cap os) (hS : Short os) :
    Calls Try.prog 6 #[.int .u64 sd, .slice a len cap, .string s, .int .i64 v, .string o] w fun e w' => e = .returned (.bool true) ∧ Below w.heap.size w w' := by
  have hl := h.len_
  have hlen : len ≤ 300 := by rw [← hl]; exact hS.1
  have hzi : (s.size : Int) ≤ 300 := by omega
  have hoi : (o.size : Int) ≤ 300 := by omega
  have hno := str_ne hne
  have HNE := hide hne
  clear hne
  have hB : Below w.heap.size w w := Below.refl _ _
  go_enter Try.func6, Try.ntmps6
  go_wp2_with (first
    | (go_at_call 8; refine (awake_any L _).mono ?_; rintro e w1 ⟨rfl, hb⟩; replace hB := Bt hB hb; clear hb)
    | (go_at_call 9; refine (short_any (h.on hB)).mono ?_; rintro e w2 ⟨⟨q, rfl, hq⟩, hg⟩; obtain rfl : q = true := hq.2 hS; replace hB := gr_below hB hg (fun _ e => by cases e); clear hg hq)
    | (go_at_call 10; refine (new_is L (Law.ofBelow hB) sd hd).mono ?_; clear hB; rintro e w3 ⟨b, own, rfl, H⟩))
  go_loopw [14] (fun i wr => ∃ (k : Nat) (own : Nat → Prop) (st : Ts), k ≤ len ∧ i = .int .i64 k ∧ SmallT st k ∧ Law w wr ((tbP L b own st).and Part.emp)) (fun i _ => len - (intOf i).toNat)
  case atStart => exact ⟨0, own, freshT, Nat.zero_le _, rfl, smallT_fresh, H⟩
  case round =>
    clear H
    obtain ⟨k, own, st, hk, rfl, hs, H⟩ := hrel
    have hsm : SmallT st 5000 := smallT_mono hs (by omega)
    by_cases hlt : k < len
    · obtain ⟨ca, off, rfl, hcell, hok⟩ := h.at k (by omega)
      have hk3 : os[k].key.size ≤ 300 := hS.2 _ (List.getElem_mem _)
      have hvi := hok.v
      have hki : (k : Int) < (len : Int) := by omega
      have H1 := H.drew
      have c1 := (hcell.on (Nat.le_refl _) H1.below).key
      have c2 := (hcell.on (Nat.le_refl _) H1.below).v
      have HC := hide hcell
      have S1 := hide (smallT_put hs os[k].key os[k].v)
      clear hok hcell H
      go_upto_region 9 with fail
      go_region_held (fun w' => w'.cell? ⟨ca, off + k * 3 + 1, none⟩ = some (.string os[k].key) ∧ w'.cell? ⟨ca, off + k * 3 + 2, none⟩ = some (.int .i64 os[k].v)) (first | exact ⟨c3, c4⟩ | exact ⟨c1, c2⟩) ((go_at_call 12; refine (put_is L H1 hsm _ hk3 _ hvi _ rfl).mono ?_; rintro e w4 ⟨⟨x, rfl⟩, own4, H4⟩; have c3 := (HC.out.on (Nat.le_refl _) H4.below).key; have c4 := (HC.out.on (Nat.le_refl _) H4.below).v))
      go_wp2
      go_roundw
      case rel => exact ⟨k + 1, own4, _, by omega, by go_num, S1.out, H4⟩
      case measure => simp [intOf]; omega
    · have hr := H.good.rise
      have e2 : (putT (stepT st) s v).l = putL s v st.l := putT_l _ _ _
      have hr2 := rising_put (k := s) (v := v) hr
      obtain ⟨x, hx⟩ : ∃ x, (getL o st.l).getD 0 = x := ⟨_, rfl⟩
      obtain ⟨q, hq⟩ : ∃ q, (getL o st.l).isSome = q := ⟨_, rfl⟩
      obtain ⟨t2, T2⟩ : ∃ t, putT (stepT st) s v = t := ⟨_, rfl⟩
      rw [T2] at e2
      have g1 : getL s t2.l = some v := by rw [e2]; exact getL_put_same hr s v
      have g2 : getL o t2.l = getL o st.l := by rw [e2]; exact getL_put_other hr v HNE.out
      have hr3 : Rising t2.l := by rw [e2]; exact hr2
      have g3 : getL s (delL s t2.l) = none := getL_del_same hr3 s
      have g4 : getL o (delL s t2.l) = getL o st.l := (getL_del_other hr3 HNE.out).trans g2
      have m0 : SmallT st 300 := smallT_mono hs (by omega)
      have m2 : SmallT t2 301 := by rw [← T2]; exact smallT_put (smallT_step m0) s v
      have n1 : SmallT (stepT st) 5000 := smallT_mono (smallT_step m0) (by omega)
      have n2 : SmallT t2 5000 := smallT_mono m2 (by omega)
      have n3 : SmallT (stepT t2) 5000 := smallT_step n2
      have n4 : SmallT (stepT (stepT t2)) 5000 := smallT_step n3
      have n5 : SmallT (delT (stepT (stepT t2)) s) 5000 := smallT_del n4 s
      have n6 : SmallT (stepT (delT (stepT (stepT t2)) s)) 5000 := smallT_step n5
      have n7 : SmallT (stepT (stepT (delT (stepT (stepT t2)) s))) 5000 := smallT_step n6
      have K1 : Hid ((getL o st.l).getD 0 = x ∧ hasT st o = q) := ⟨hx, hq⟩
      have K2 : Hid ((getL s t2.l).getD 0 = v ∧ hasT t2 s = true) := by show _ ∧ _; unfold hasT; rw [g1]; exact ⟨rfl, rfl⟩
      have K3 : Hid ((getL o (stepT t2).l).getD 0 = x ∧ hasT (stepT t2) o = q) := by show _ ∧ _; unfold hasT stepT; rw [g2]; exact ⟨hx, hq⟩
      have D1 : Hid (hasT (stepT (stepT t2)) s = true) := by show _ = _; unfold hasT stepT; rw [g1]; rfl
      have K4 : Hid ((getL s (delT (stepT (stepT t2)) s).l).getD 0 = 0 ∧ hasT (delT (stepT (stepT t2)) s) s = false) := by show _ ∧ _; unfold hasT delT stepT; rw [g3]; exact ⟨rfl, rfl⟩
      have K5 : Hid ((getL o (stepT (delT (stepT (stepT t2)) s)).l).getD 0 = x ∧ hasT (stepT (delT (stepT (stepT t2)) s)) o = q) := by show _ ∧ _; unfold hasT delT stepT; rw [g4]; exact ⟨hx, hq⟩
      have D2 : Hid (hasT (stepT (stepT (delT (stepT (stepT t2)) s))) s = false) := by show _ = _; unfold hasT delT stepT; rw [g3]; rfl
      have HT := hide T2
      clear hx hq T2 e2 g1 g2 g3 g4 hr hr2 hr3 hs m0 m2
      go_wp2_with (first
        | (go_at_call 14; have t := K1; clear t; refine (get_is L H hsm o ho _ _ K1.out.1 K1.out.2).mono ?_; clear H K1; rintro e w4 ⟨rfl, own4, H⟩)
        | (go_at_call 12; refine (put_is L H n1 s hz v hv _ HT.out).mono ?_; clear H; rintro e w5 ⟨⟨y, rfl⟩, own5, H⟩)
        | (go_at_call 14; have t := K2; clear t; refine (get_is L H n2 s hz _ _ K2.out.1 K2.out.2).mono ?_; clear H K2; rintro e w6 ⟨rfl, own6, H⟩)
        | (go_at_call 14; have t := K3; clear t; refine (get_is L H n3 o ho _ _ K3.out.1 K3.out.2).mono ?_; clear H K3; rintro e w7 ⟨rfl, own7, H⟩)
        | (go_at_call 16; have t := D1; clear t; refine (del_is L H n4 s hz _ D1.out).mono ?_; clear H D1; rintro e w8 ⟨rfl, own8, H⟩)
        | (go_at_call 14; have t := K4; clear t; refine (get_is L H n5 s hz _ _ K4.out.1 K4.out.2).mono ?_; clear H K4; rintro e w9 ⟨rfl, own9, H⟩)
        | (go_at_call 14; have t := K5; clear t; refine (get_is L H n6 o ho _ _ K5.out.1 K5.out.2).mono ?_; clear H K5; rintro e w10 ⟨rfl, own10, H⟩)
        | (go_at_call 16; refine (del_is L H n7 s hz _ D2.out).mono ?_; clear H; rintro e w11 ⟨rfl, own11, H⟩; have hB := H.below))
      go_ret
      exact ⟨by simp, hB⟩
set_option maxRecDepth 100000 in
set_option maxHeartbeats 2000000 in
theorem tableLast_out (L : TableLib Tb) (sd : Nat) (hd : sd < 18446744073709551616) (s : ByteArray) (hz : s.size ≤ maxLen) (v : Int) (o : ByteArray) (ho : o.size ≤ maxLen) {w : World} {a : Option Addr} {len cap : Nat} {os : List Op9} (h : OpsAt w a len cap os) (hA : ¬ (((Short os ∧ s.size ≤ 300) ∧ o.size ≤ 300) ∧ s ≠ o)) :
    Calls Try.prog 6 #[.int .u64 sd, .slice a len cap, .string s, .int .i64 v, .string o] w fun e w' => e = .returned (.bool true) ∧ Below w.heap.size w w' := by
  have hB : Below w.heap.size w w := Below.refl _ _
  unfold maxLen at hz ho
  by_cases hs : Short os
  · have hS := hs
    by_cases h1 : s.size ≤ 300
    · have h1i : (s.size : Int) ≤ 300 := by omega
      by_cases h2 : o.size ≤ 300
      · have h2i : (o.size : Int) ≤ 300 := by omega
        have e : s = o := Classical.byContradiction fun hne => hA ⟨⟨⟨hs, h1⟩, h2⟩, hne⟩
        subst e
        clear hA
        go_enter Try.func6, Try.ntmps6
        go_wp2_with (first
          | (go_at_call 8; refine (awake_any L _).mono ?_; rintro e w1 ⟨rfl, hb⟩; replace hB := Bt hB hb; clear hb)
          | (go_at_call 9; refine (short_any (h.on hB)).mono ?_; rintro e w2 ⟨⟨q, rfl, hq⟩, hg⟩; obtain rfl : q = true := hq.2 hS; replace hB := gr_below hB hg (fun _ e => by cases e); clear hg hq)
          | (go_at_call 10; refine (new_is L (Law.ofBelow hB) sd hd).mono ?_; clear hB; rintro e w3 ⟨b, own, rfl, H⟩; have hB := H.below))
        go_ret
        exact ⟨rfl, hB⟩
      · have h2i : 300 < (o.size : Int) := by omega
        clear hA
        go_enter Try.func6, Try.ntmps6
        go_wp2_with (first
          | (go_at_call 8; refine (awake_any L _).mono ?_; rintro e w1 ⟨rfl, hb⟩; replace hB := Bt hB hb; clear hb)
          | (go_at_call 9; refine (short_any (h.on hB)).mono ?_; rintro e w2 ⟨⟨q, rfl, hq⟩, hg⟩; obtain rfl : q = true := hq.2 hS; replace hB := gr_below hB hg (fun _ e => by cases e); clear hg hq)
          | (go_at_call 10; refine (new_is L (Law.ofBelow hB) sd hd).mono ?_; clear hB; rintro e w3 ⟨b, own, rfl, H⟩; have hB := H.below))
        go_ret
        exact ⟨rfl, hB⟩
    · have h1i : 300 < (s.size : Int) := by omega
      clear hA
      go_enter Try.func6, Try.ntmps6
      go_wp2_with (first
        | (go_at_call 8; refine (awake_any L _).mono ?_; rintro e w1 ⟨rfl, hb⟩; replace hB := Bt hB hb; clear hb)
        | (go_at_call 9; refine (short_any (h.on hB)).mono ?_; rintro e w2 ⟨⟨q, rfl, hq⟩, hg⟩; obtain rfl : q = true := hq.2 hS; replace hB := gr_below hB hg (fun _ e => by cases e); clear hg hq)
        | (go_at_call 10; refine (new_is L (Law.ofBelow hB) sd hd).mono ?_; clear hB; rintro e w3 ⟨b, own, rfl, H⟩; have hB := H.below))
      go_ret
      exact ⟨rfl, hB⟩
  · clear hA
    go_enter Try.func6, Try.ntmps6
    go_wp2_with (first
      | (go_at_call 8; refine (awake_any L _).mono ?_; rintro e w1 ⟨rfl, hb⟩; replace hB := Bt hB hb; clear hb)
      | (go_at_call 9; refine (short_any (h.on hB)).mono ?_; rintro e w2 ⟨⟨q, rfl, hq⟩, hg⟩; obtain rfl : q = false := Bool.eq_false_iff.2 fun e => hs (hq.1 e); replace hB := gr_below hB hg (fun _ e => by cases e); clear hg hq)
      | (go_at_call 10; refine (new_is L (Law.ofBelow hB) sd hd).mono ?_; clear hB; rintro e w3 ⟨b, own, rfl, H⟩; have hB := H.below))
    go_ret
    exact ⟨rfl, hB⟩
theorem tableLast_walk (L : TableLib Tb) (W : World) (a0 : Int) (w0 : (Lit.int .u64 a0).wf = true) (a1 : Option Addr) (len1 cap1 : Nat) (z1 : List Op9) (w1 : OpsAt W a1 len1 cap1 z1) (s2 : ByteArray) (w2 : s2.size ≤ 140737488351232) (a3 : Int) (w3 : (Lit.int .i64 a3).wf = true) (s4 : ByteArray) (w4 : s4.size ≤ 140737488351232) :
    Calls Try.prog 6 #[.int .u64 a0, .slice a1 len1 cap1, .string s2, .int .i64 a3, .string s4] W fun e W' => e = .returned (.bool true) ∧ Below W.heap.size W W' := by
  obtain ⟨h0, h1⟩ := u64_wf w0
  obtain ⟨sd, rfl⟩ := Int.eq_ofNat_of_zero_le h0
  by_cases h : ((Short z1 ∧ s2.size ≤ 300) ∧ s4.size ≤ 300) ∧ s2 ≠ s4
  · exact tableLast_in L sd (by omega) s2 h.1.1.2 a3 (i64_wf w3) s4 h.1.2 h.2 w1 h.1.1.1
  · exact tableLast_out L sd (by omega) s2 (Nat.le_trans w2 (by decide)) a3 s4 (Nat.le_trans w4 (by decide)) w1 h
end Go.Proofs.Ytncblaofgdcfmaa
