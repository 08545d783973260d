/- TableSeeds returns true for any two seeds, all calls and every number, and writes nothing that was there. Conditions: the contracts of package table. -/
import Derived.Test.YtncblaofgdcfmaaTableAll
import Derived.Deep.RegionHeldLaw
import Derived.Deep.CutBlock
import Derived.Deep.CutRange
namespace Go.Proofs.Ytncblaofgdcfmaa
open Go.RowKit Go.Shelf
variable {Tb : World → Nat → (Nat → Prop) → Ts → Prop}

theorem take_all {st : Ts} (h : st.l.length ≤ 1000) : st.l.take (1000 : Int).toNat = st.l := List.take_of_length_le h
/-- The table has just these texts, each with its length. -/
def Sized (l : List Kv) (ks : ByteArray → Prop) : Prop := ∀ p : Kv, p ∈ l ↔ ks p.1 ∧ p.2 = (p.1.size : Int)
theorem sized_put {l : List Kv} {ks : ByteArray → Prop} (h : Rising l) (hs : Sized l ks) (k : ByteArray) : Sized (putL k k.size l) (fun x => x = k ∨ ks x) := by
  intro p
  obtain ⟨x, v⟩ := p
  rw [mem_putL h, hs]
  constructor
  · rintro (e | ⟨⟨h1, h2⟩, _⟩)
    · cases e; exact ⟨.inl rfl, rfl⟩
    · exact ⟨.inr h1, h2⟩
  · rintro ⟨h1, h2⟩
    by_cases e : x = k
    · subst e
      exact .inl (by rw [show v = (x.size : Int) from h2])
    · exact .inr ⟨⟨h1.resolve_left e, h2⟩, e⟩
theorem sized_eq {l m : List Kv} {ks js : ByteArray → Prop} (hl : Rising l) (hm : Rising m) (h1 : Sized l ks) (h2 : Sized m js) (h : ∀ x, ks x ↔ js x) : l = m := rising_ext hl hm fun p => by rw [h1, h2, h]
theorem sized_iff {l : List Kv} {ks js : ByteArray → Prop} (h1 : Sized l ks) (h : ∀ x, ks x ↔ js x) : Sized l js := fun p => by rw [h1, h]
set_option maxRecDepth 100000 in
set_option maxHeartbeats 4000000 in
theorem tableSeeds_in (L : TableLib Tb) (s1 : Nat) (hd1 : s1 < 18446744073709551616) (s2 : Nat) (hd2 : s2 < 18446744073709551616) (n : Nat) (hn : n ≤ 1000) {w : World} {a : Option Addr} {len cap : Nat} {os : List Op9} (h : OpsAt w a len cap os) (hS : Short os) :
    Calls Try.prog 5 #[.int .u64 s1, .int .u64 s2, .slice a len cap, .int .i64 n] w fun e w' => e = .returned (.bool true) ∧ Below w.heap.size w w' := by
  have hl := h.len_
  have hlen : len ≤ 300 := by rw [← hl]; exact hS.1
  have hni : (n : Int) ≤ 1000 := by omega
  have k1 := hide True.intro
  have hB : Below w.heap.size w w := Below.refl _ _
  go_enter Try.func5, Try.ntmps5
  go_wp2_with (first
    | (go_at_call 8; refine (awake_any L _).mono ?_; rintro e w1 ⟨rfl, hb⟩; replace hB := Bt hB hb; clear hb)
    | (go_at_call 9; refine (short_any (h.on hB)).mono ?_; rintro e w2 ⟨⟨q, rfl, hq⟩, hg⟩; obtain rfl : q = true := hq.2 hS; replace hB := gr_below hB hg (fun _ e => by cases e); clear hg hq)
    | (go_at_call 10; have t := k1; clear t; refine (new_is L (Law.ofBelow hB) s1 hd1).mono ?_; clear hB k1; rintro e w3 ⟨b, own, rfl, H⟩)
    | (go_at_call 10; refine (new_is L H s2 hd2).mono ?_; clear H; rintro e w4 ⟨c, ownc, rfl, H⟩))
  go_loopw [13] (fun i wr => ∃ (k : Nat) (own : Nat → Prop) (st : Ts), k ≤ len ∧ i = .int .i64 k ∧ SmallT st k ∧ Sized st.l (fun x => ∃ o ∈ os.take k, o.key = x) ∧ Law w wr ((tbP L b own st).and ((tbP L c ownc freshT).and Part.emp))) (fun i _ => len - (intOf i).toNat)
  case atStart => exact ⟨0, own, freshT, Nat.zero_le _, rfl, smallT_fresh, fun p => ⟨(fun hp => by cases hp), (fun hp => by obtain ⟨⟨o, ho, _⟩, _⟩ := hp; simp at ho)⟩, H.rot⟩
  case round =>
    clear H
    obtain ⟨k, own, st, hk, rfl, hs, hsz, H⟩ := hrel
    have hsm : SmallT st 5000 := smallT_mono hs (by omega)
    by_cases hlt : k < len
    · obtain ⟨ca, off, rfl, hcell, hok⟩ := h.at k (by omega)
      have hk3 : os[k].key.size ≤ 300 := hS.2 _ (List.getElem_mem _)
      have hvi : I64 (os[k].key.size : Int) := by constructor <;> omega
      have hki : (k : Int) < (len : Int) := by omega
      have H1 := H.drew
      have c1 := (hcell.on (Nat.le_refl _) H1.below).key
      have HC := hide hcell
      have S1 := hide (smallT_put hs os[k].key os[k].key.size)
      have Z1 : Hid (Sized (putT st os[k].key os[k].key.size).l (fun x => ∃ o ∈ os.take (k + 1), o.key = x)) := by
        show Sized _ _
        rw [putT_l]
        refine sized_iff (sized_put H.good.rise hsz os[k].key) fun x => ?_
        rw [List.take_succ_eq_append_getElem (by omega)]
        constructor
        · rintro (rfl | ⟨o, ho, e⟩)
          · exact ⟨_, List.mem_append_right _ (List.mem_singleton.2 rfl), rfl⟩
          · exact ⟨o, List.mem_append_left _ ho, e⟩
        · rintro ⟨o, ho, e⟩
          rcases List.mem_append.1 ho with ho | ho
          · exact .inr ⟨o, ho, e⟩
          · rw [List.mem_singleton] at ho
            subst ho
            exact .inl e.symm
      clear hok hcell H hsz
      go_upto_region 10 with fail
      go_region_held (fun w' => w'.cell? ⟨ca, off + k * 3 + 1, none⟩ = some (.string os[k].key)) (first | exact c3 | exact c1) ((go_at_call 12; refine (put_is L H1 hsm _ hk3 _ hvi _ rfl).mono ?_; rintro e w5 ⟨⟨x, rfl⟩, own5, H5⟩; have c3 := (HC.out.on (Nat.le_refl _) H5.below).key))
      go_wp2
      go_roundw
      case rel => exact ⟨k + 1, own5, _, by omega, by go_num, S1.out, Z1.out, H5⟩
      case measure => simp [intOf]; omega
    · obtain rfl : k = len := by omega
      have Z0 : Hid (Sized st.l (fun x => ∃ o ∈ os, o.key = x)) := by rw [← hl, List.take_length] at hsz; exact hsz
      have hs0 := hide hs
      clear hsz hs
      replace H := H.rot
      go_wp2
      go_loopw [14] (fun i wr => ∃ (j : Nat) (own2 : Nat → Prop) (st2 : Ts), j ≤ k ∧ i = .int .i64 ((j : Int) - 1) ∧ SmallT st2 (k - j) ∧ Sized st2.l (fun x => ∃ o ∈ os.drop j, o.key = x) ∧ Law w wr ((tbP L c own2 st2).and ((tbP L b own st).and Part.emp))) (fun i _ => (intOf i + 1).toNat)
      case atStart => exact ⟨k, ownc, freshT, Nat.le_refl _, by go_num, by rw [Nat.sub_self]; exact smallT_fresh, fun p => ⟨(fun hp => by cases hp), (fun hp => by obtain ⟨⟨o, ho, _⟩, _⟩ := hp; rw [← hl, List.drop_length] at ho; cases ho)⟩, H⟩
      case round =>
        clear H
        obtain ⟨j, own2, st2, hj, rfl, hs2, hsz2, H⟩ := hrel
        have hsm2 : SmallT st2 5000 := smallT_mono hs2 (by omega)
        by_cases hj0 : 1 ≤ j
        · obtain ⟨i, rfl⟩ : ∃ i, j = i + 1 := ⟨j - 1, by omega⟩
          have ei : (((i + 1 : Nat) : Int) - 1) = (i : Int) := by omega
          rw [ei]
          obtain ⟨ca, off, rfl, hcell, hok⟩ := h.at i (by omega)
          have hk3 : os[i].key.size ≤ 300 := hS.2 _ (List.getElem_mem _)
          have hvi : I64 (os[i].key.size : Int) := by constructor <;> omega
          have hki : (i : Int) < (k : Int) := by omega
          have H1 := H.drew
          have c1 := (hcell.on (Nat.le_refl _) H1.below).key
          have HC := hide hcell
          have S1 : Hid (SmallT (putT st2 os[i].key os[i].key.size) (k - i)) := by
            have := smallT_put hs2 os[i].key os[i].key.size
            rwa [show k - (i + 1) + 1 = k - i by omega] at this
          have Z1 : Hid (Sized (putT st2 os[i].key os[i].key.size).l (fun x => ∃ o ∈ os.drop i, o.key = x)) := by
            show Sized _ _
            rw [putT_l]
            refine sized_iff (sized_put H.good.rise hsz2 os[i].key) fun x => ?_
            rw [List.drop_eq_getElem_cons (show i < os.length by omega)]
            constructor
            · rintro (rfl | ⟨o, ho, e⟩)
              · exact ⟨_, List.mem_cons_self, rfl⟩
              · exact ⟨o, List.mem_cons_of_mem _ ho, e⟩
            · rintro ⟨o, ho, e⟩
              rcases List.mem_cons.1 ho with ho | ho
              · subst ho
                exact .inl e.symm
              · exact .inr ⟨o, ho, e⟩
          clear hok hcell H hsz2 ei
          go_upto_region 14 with fail
          go_region_held (fun w' => w'.cell? ⟨ca, off + i * 3 + 1, none⟩ = some (.string os[i].key)) (first | exact c3 | exact c1) ((go_at_call 12; refine (put_is L H1 hsm2 _ hk3 _ hvi _ rfl).mono ?_; rintro e w5 ⟨⟨x, rfl⟩, own5, H5⟩; have c3 := (HC.out.on (Nat.le_refl _) H5.below).key))
          go_wp2
          go_roundw
          case rel => exact ⟨i, own5, _, by omega, by go_num, S1.out, Z1.out, H5⟩
          case measure => simp [intOf]
        · obtain rfl : j = 0 := by omega
          rw [List.drop_zero] at hsz2
          have hll : st2.l = st.l := sized_eq H.good.rise H.rot.good.rise hsz2 Z0.out fun _ => Iff.rfl
          have hxl : st.l.length ≤ 300 := Nat.le_trans hs0.out.len (by omega)
          have LL : Hid ((st2.l.length : Int) = (st.l.length : Int)) := by show _ = _; rw [hll]
          have K1 := hide (take_all (st := st) (by omega))
          obtain ⟨m, hmn⟩ : ∃ m, m = min n st.l.length := ⟨_, rfl⟩
          have hm1 : m ≤ st.l.length := by omega
          have K2 : Hid (st2.l.take (n : Int).toNat = st.l.take m) := by
            show _ = _
            rw [hll, hmn, Int.toNat_natCast]
            rcases Nat.le_total n st.l.length with h1 | h1
            · rw [Nat.min_eq_left h1]
            · rw [Nat.min_eq_right h1, List.take_length, List.take_of_length_le h1]
          have hl3 : (st.l.take m).length ≤ 140737488351232 := by rw [List.length_take]; omega
          have k2 := hide True.intro
          have k3 := hide True.intro
          replace H := H.rot
          clear hsz2 hll hs2
          by_cases hc : st.l.length < n
          · have hci : (st.l.length : Int) < (n : Int) := by omega
            have hme : st.l.length = m := by omega
            clear hmn
            subst hme
            go_wp2_with (first
              | (go_at_call 22; have t := K1; clear t; refine (all_is L H hsm 1000 (by decide) _ K1.out).mono ?_; clear H K1; rintro e w6 ⟨va, rfl, H⟩; obtain ⟨pa, ca, rfl⟩ := own_shape H.q.2.1.1; obtain ⟨hca, hcm⟩ := own_cap H.q.2.1.1; unfold maxLen at hcm; replace H := H.rin.rot)
              | (go_at_call 22; have t := K2; clear t; refine (all_is L H hsm2 n (by omega) _ K2.out).mono ?_; clear H K2; rintro e w7 ⟨vb, rfl, H⟩)
              | (go_at_call 21; refine (same_eq _ _ _ _ hl3 (pairs_take (pairs_own H.q.2.1.2.1.2.1.1) _ hm1) (pairs_own H.q.2.1.1)).mono ?_; rintro e w8 ⟨rfl, hg⟩; replace H := H.step hg; clear hg)
              | (go_at_call 18; have t := k2; clear t; refine (len_is L H.rin.rot hsm _ rfl).mono ?_; clear H k2; rintro e w9 ⟨rfl, H⟩; replace H := H.rot)
              | (go_at_call 18; have t := k3; clear t; refine (len_is L H hsm2 _ LL.out).mono ?_; clear H k3; rintro e w10 ⟨rfl, H⟩)
              | (go_at_call 18; refine (len_is L H.rot hsm _ rfl).mono ?_; clear H; rintro e w11 ⟨rfl, H⟩; have hB := H.below))
            go_ret
            exact ⟨by simp, hB⟩
          · have hci : (n : Int) ≤ (st.l.length : Int) := by omega
            have hme : n = m := by omega
            clear hmn
            subst hme
            go_wp2_with (first
              | (go_at_call 22; have t := K1; clear t; refine (all_is L H hsm 1000 (by decide) _ K1.out).mono ?_; clear H K1; rintro e w6 ⟨va, rfl, H⟩; obtain ⟨pa, ca, rfl⟩ := own_shape H.q.2.1.1; obtain ⟨hca, hcm⟩ := own_cap H.q.2.1.1; unfold maxLen at hcm; replace H := H.rin.rot)
              | (go_at_call 22; have t := K2; clear t; refine (all_is L H hsm2 n (by omega) _ K2.out).mono ?_; clear H K2; rintro e w7 ⟨vb, rfl, H⟩)
              | (go_at_call 21; refine (same_eq _ _ _ _ hl3 (pairs_take (pairs_own H.q.2.1.2.1.2.1.1) _ hm1) (pairs_own H.q.2.1.1)).mono ?_; rintro e w8 ⟨rfl, hg⟩; replace H := H.step hg; clear hg)
              | (go_at_call 18; have t := k2; clear t; refine (len_is L H.rin.rot hsm _ rfl).mono ?_; clear H k2; rintro e w9 ⟨rfl, H⟩; replace H := H.rot)
              | (go_at_call 18; have t := k3; clear t; refine (len_is L H hsm2 _ LL.out).mono ?_; clear H k3; rintro e w10 ⟨rfl, H⟩)
              | (go_at_call 18; refine (len_is L H.rot hsm _ rfl).mono ?_; clear H; rintro e w11 ⟨rfl, H⟩; have hB := H.below))
            go_ret
            exact ⟨by simp, hB⟩
set_option maxRecDepth 100000 in
set_option maxHeartbeats 2000000 in
theorem tableSeeds_out (L : TableLib Tb) (s1 : Nat) (hd1 : s1 < 18446744073709551616) (s2 : Nat) (hd2 : s2 < 18446744073709551616) (n : Int) {w : World} {a : Option Addr} {len cap : Nat} {os : List Op9} (h : OpsAt w a len cap os) (hA : ¬ (Short os ∧ 0 ≤ n ∧ n ≤ 1000)) :
    Calls Try.prog 5 #[.int .u64 s1, .int .u64 s2, .slice a len cap, .int .i64 n] w fun e w' => e = .returned (.bool true) ∧ Below w.heap.size w w' := by
  have hB : Below w.heap.size w w := Below.refl _ _
  have k1 := hide True.intro
  by_cases hs : Short os
  · have hS := hs
    by_cases h0 : n < 0
    · clear hA
      go_enter Try.func5, Try.ntmps5
      go_wp2_with (first
        | (go_at_call 8; refine (awake_any L _).mono ?_; rintro e w1 ⟨rfl, hb⟩; replace hB := Bt hB hb; clear hb)
        | (go_at_call 9; refine (short_any (h.on hB)).mono ?_; rintro e w2 ⟨⟨q, rfl, hq⟩, hg⟩; obtain rfl : q = true := hq.2 hS; replace hB := gr_below hB hg (fun _ e => by cases e); clear hg hq)
        | (go_at_call 10; have t := k1; clear t; refine (new_is L (Law.ofBelow hB) s1 hd1).mono ?_; clear hB k1; rintro e w3 ⟨b, own, rfl, H⟩)
        | (go_at_call 10; refine (new_is L H s2 hd2).mono ?_; clear H; rintro e w4 ⟨c, ownc, rfl, H⟩; have hB := H.below))
      go_ret
      exact ⟨rfl, hB⟩
    · have h3 : 1000 < n := Int.not_le.1 fun h3 => hA ⟨hs, Int.not_lt.1 h0, h3⟩
      have h1 : 0 ≤ n := Int.not_lt.1 h0
      clear hA h0
      go_enter Try.func5, Try.ntmps5
      go_wp2_with (first
        | (go_at_call 8; refine (awake_any L _).mono ?_; rintro e w1 ⟨rfl, hb⟩; replace hB := Bt hB hb; clear hb)
        | (go_at_call 9; refine (short_any (h.on hB)).mono ?_; rintro e w2 ⟨⟨q, rfl, hq⟩, hg⟩; obtain rfl : q = true := hq.2 hS; replace hB := gr_below hB hg (fun _ e => by cases e); clear hg hq)
        | (go_at_call 10; have t := k1; clear t; refine (new_is L (Law.ofBelow hB) s1 hd1).mono ?_; clear hB k1; rintro e w3 ⟨b, own, rfl, H⟩)
        | (go_at_call 10; refine (new_is L H s2 hd2).mono ?_; clear H; rintro e w4 ⟨c, ownc, rfl, H⟩; have hB := H.below))
      go_ret
      exact ⟨rfl, hB⟩
  · clear hA
    go_enter Try.func5, Try.ntmps5
    go_wp2_with (first
      | (go_at_call 8; refine (awake_any L _).mono ?_; rintro e w1 ⟨rfl, hb⟩; replace hB := Bt hB hb; clear hb)
      | (go_at_call 9; refine (short_any (h.on hB)).mono ?_; rintro e w2 ⟨⟨q, rfl, hq⟩, hg⟩; obtain rfl : q = false := Bool.eq_false_iff.2 fun e => hs (hq.1 e); replace hB := gr_below hB hg (fun _ e => by cases e); clear hg hq)
      | (go_at_call 10; have t := k1; clear t; refine (new_is L (Law.ofBelow hB) s1 hd1).mono ?_; clear hB k1; rintro e w3 ⟨b, own, rfl, H⟩)
      | (go_at_call 10; refine (new_is L H s2 hd2).mono ?_; clear H; rintro e w4 ⟨c, ownc, rfl, H⟩; have hB := H.below))
    go_ret
    exact ⟨rfl, hB⟩
theorem tableSeeds_walk (L : TableLib Tb) (W : World) (a0 : Int) (w0 : (Lit.int .u64 a0).wf = true) (a1 : Int) (w1 : (Lit.int .u64 a1).wf = true) (a2 : Option Addr) (len2 cap2 : Nat) (z2 : List Op9) (w2 : OpsAt W a2 len2 cap2 z2) (a3 : Int) (_w3 : (Lit.int .i64 a3).wf = true) :
    Calls Try.prog 5 #[.int .u64 a0, .int .u64 a1, .slice a2 len2 cap2, .int .i64 a3] W fun e W' => e = .returned (.bool true) ∧ Below W.heap.size W W' := by
  obtain ⟨h0, h0'⟩ := u64_wf w0
  obtain ⟨h1, h1'⟩ := u64_wf w1
  obtain ⟨s1, rfl⟩ := Int.eq_ofNat_of_zero_le h0
  obtain ⟨s2, rfl⟩ := Int.eq_ofNat_of_zero_le h1
  by_cases h : Short z2 ∧ 0 ≤ a3 ∧ a3 ≤ 1000
  · obtain ⟨n, rfl⟩ := Int.eq_ofNat_of_zero_le h.2.1
    exact tableSeeds_in L s1 (by omega) s2 (by omega) n (by have := h.2.2; omega) w2 h.1
  · exact tableSeeds_out L s1 (by omega) s2 (by omega) a3 w2 h
end Go.Proofs.Ytncblaofgdcfmaa
