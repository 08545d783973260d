/- TableGrows returns true for every seed and any three numbers, and writes nothing that was there. Conditions: the contracts of package table. -/
import Derived.Test.YtncblaofgdcfmaaTableAll
import Derived.Deep.CutBlock
import Derived.Deep.CutRange
import Derived.Laws.Cover1
namespace Go.Proofs.Ytncblaofgdcfmaa
open Go.RowKit Go.Shelf
variable {Tb : World → Nat → (Nat → Prop) → Ts → Prop}

theorem numK_inj {a c : Nat} (ha : a < 10000) (hc : c < 10000) (h : numK a = numK c) : a = c := by
  unfold numK at h
  simp only [ByteArray.mk.injEq, Array.mk.injEq, List.cons.injEq, and_true] at h
  have h1 := congrArg UInt8.toNat h.1
  have h2 := congrArg UInt8.toNat h.2
  simp at h1 h2
  omega
def kkOf (step i : Nat) : Nat := i * step % 1511
theorem kk_lt (step i : Nat) : kkOf step i < 1511 := Nat.mod_lt _ (by decide)
theorem mul_lt9 (i step : Nat) (h1 : i < 1500) (h2 : step ≤ 1500) : i * step < 2250000 := by
  have := Nat.mul_le_mul (Nat.le_of_lt_succ (Nat.lt_succ_of_lt h1)) h2
  have h3 : i * step ≤ 1499 * 1500 := Nat.mul_le_mul (by omega) h2
  omega
theorem grow_facts (i step : Nat) (h1 : i < 1500) (h2 : step ≤ 1500) : ∃ m kk : Nat, kk < 1511 ∧ (i : Int) * (step : Int) = (m : Int) ∧ Int.tmod (m : Int) 1511 = (kk : Int) ∧ wrap64 (m : Int) = m ∧ kkOf step i = kk := by
  have h3 := mul_lt9 i step h1 h2
  refine ⟨i * step, i * step % 1511, Nat.mod_lt _ (by decide), (Int.natCast_mul _ _).symm, ?_, ?_, rfl⟩
  · rw [Int.tmod_eq_emod_of_nonneg (Int.natCast_nonneg _)]
    exact (Int.natCast_emod _ _).symm
  · generalize i * step = m at *
    unfold wrap64
    omega
theorem tmod_nat {a c r : Nat} (h : a % c = r) : Int.tmod (a : Int) (c : Int) = (r : Int) := by
  rw [Int.tmod_eq_emod_of_nonneg (Int.natCast_nonneg _), ← h]
  exact (Int.natCast_emod _ _).symm
theorem sub_facts {a t : Nat} (h : t + (if true = true then 1 else 0) = a) (ha : a ≤ 1500) : (a : Int) - 1 = (t : Int) ∧ wrap64 (t : Int) = t ∧ t ≤ a := by
  simp at h
  refine ⟨by omega, ?_, by omega⟩
  unfold wrap64
  omega
theorem bytes_ltB : ∀ l m : List UInt8, Op.bytesLess l m = ltB l m
  | _, [] => by cases ‹List UInt8› <;> rfl
  | [], _ :: _ => rfl
  | a :: l, c :: m => by
    unfold Op.bytesLess ltB
    rw [bytes_ltB l m]
    by_cases h1 : a < c
    · simp [h1]
    · by_cases h2 : c < a
      · have : a ≠ c := fun e => by subst e; exact h1 h2
        simp [h1, h2, this]
      · have : a = c := UInt8.le_antisymm (UInt8.not_lt.1 h2) (UInt8.not_lt.1 h1)
        subst this
        simp [h1]
theorem ltK_bytes (a c : ByteArray) : Op.bytesLess a.toList c.toList = ltK a c := by
  rw [ByteArray.toList_eq, ByteArray.toList_eq]
  exact bytes_ltB _ _
theorem index_pair (g off n cap k : Nat) (hk : k < n) : ∀ w : World, (Instr.indexAt 37 (.slice (some ⟨g, off, none⟩) n cap) (.int .i64 (k : Int))).run Try.prog w = .ok (.pointer (some ⟨g, off + k * 2, none⟩)) w := by
  intro w
  have hki : (k : Int) < (n : Int) := Int.ofNat_lt.2 hk
  go_simp
theorem prev_ex {q : Nat} (h : 0 < q) : ∃ r, q = r + 1 := ⟨q - 1, by omega⟩
theorem prev_facts {q r n : Nat} (hr : q = r + 1) (hq : q < n) (hn : n ≤ 1500) : r < n ∧ (q : Int) - 1 = (r : Int) ∧ wrap64 (r : Int) = r ∧ decide ((0 : Int) < (q : Int)) = true ∧ (r : Int) < (n : Int) ∧ Hid ((q : Int) + 1 ≤ 1500) := by
  refine ⟨by omega, by omega, ?_, decide_eq_true (by omega), by omega, (by show _ ≤ _; omega)⟩
  unfold wrap64
  omega
theorem kk_i64 {kk : Nat} (h : kk < 1511) : I64 (kk : Int) := by constructor <;> omega
/-- The table has just the numbers of which ks holds. -/
def Has9 (l : List Kv) (ks : Nat → Prop) : Prop := ∀ p : Kv, p ∈ l ↔ ∃ x, x < 1511 ∧ ks x ∧ p = (numK x, (x : Int))
theorem has9_put {l : List Kv} {ks : Nat → Prop} (h : Rising l) (hs : Has9 l ks) (k : Nat) (hk : k < 1511) : Has9 (putL (numK k) k l) (fun x => x = k ∨ ks x) := by
  intro p
  rw [mem_putL h, hs]
  constructor
  · rintro (e | ⟨⟨x, h1, h2, h3⟩, _⟩)
    · exact ⟨k, hk, .inl rfl, e⟩
    · exact ⟨x, h1, .inr h2, h3⟩
  · rintro ⟨x, h1, h2, h3⟩
    by_cases e : x = k
    · subst e
      exact .inl h3
    · refine .inr ⟨⟨x, h1, h2.resolve_left e, h3⟩, fun e2 => e ?_⟩
      rw [h3] at e2
      exact numK_inj (by omega) (by omega) e2
theorem has9_get {l : List Kv} {ks : Nat → Prop} (h : Rising l) (hs : Has9 l ks) (k : Nat) (hk : k < 1511) (hin : ks k) : getL (numK k) l = some (k : Int) := (getL_some h).2 ((hs _).2 ⟨k, hk, hin, rfl⟩)
theorem has9_iff {l : List Kv} {ks js : Nat → Prop} (h1 : Has9 l ks) (h : ∀ x, x < 1511 → (ks x ↔ js x)) : Has9 l js := fun p => by
  rw [h1]
  constructor
  · rintro ⟨x, a, b, c⟩; exact ⟨x, a, (h x a).1 b, c⟩
  · rintro ⟨x, a, b, c⟩; exact ⟨x, a, (h x a).2 b, c⟩
theorem has9_del {l : List Kv} {ks : Nat → Prop} (hs : Has9 l ks) (k : Nat) (hk : k < 1511) : Has9 (delL (numK k) l) (fun x => ks x ∧ x ≠ k) := by
  intro p
  rw [mem_delL, hs]
  constructor
  · rintro ⟨⟨x, h1, h2, h3⟩, h4⟩
    refine ⟨x, h1, ⟨h2, fun e => h4 ?_⟩, h3⟩
    rw [h3, e]
  · rintro ⟨x, h1, ⟨h2, h5⟩, h3⟩
    refine ⟨⟨x, h1, h2, h3⟩, fun e => h5 ?_⟩
    rw [h3] at e
    exact numK_inj (by omega) (by omega) e
theorem del_len {l : List Kv} (h : Rising l) (k : ByteArray) : (delL k l).length + (if (getL k l).isSome then 1 else 0) = l.length := by
  induction l with
  | nil => rfl
  | cons p l ih =>
    unfold Rising at h
    rw [List.pairwise_cons] at h
    have ih := ih h.2
    by_cases e : p.1 = k
    · have hno : delL k l = l := by
        unfold delL
        rw [List.filter_eq_self]
        intro r hr
        exact decide_eq_true fun e2 => ltK_ne (h.1 r hr) (e.trans e2.symm)
      have h1 : delL k (p :: l) = delL k l := by unfold delL; rw [List.filter_cons_of_neg (by simp [e])]
      have h2 : getL k (p :: l) = some p.2 := by unfold getL; rw [List.find?_cons_of_pos (by simp [e])]; rfl
      rw [h1, hno, h2]
      simp
    · have h1 : delL k (p :: l) = p :: delL k l := by unfold delL; rw [List.filter_cons_of_pos (by simp [e])]
      have h2 : getL k (p :: l) = getL k l := by unfold getL; rw [List.find?_cons_of_neg (by simp [e])]
      rw [h1, h2, List.length_cons, List.length_cons, ← ih]
      omega
set_option maxRecDepth 100000 in
set_option maxHeartbeats 4000000 in
theorem tableGrows_in (L : TableLib Tb) (sd : Nat) (hd : sd < 18446744073709551616) (n step keep : Nat) (hn1 : 1 ≤ n) (hn2 : n ≤ 1500) (hst1 : 1 ≤ step) (hst : step ≤ 1500) (hkp1 : 1 ≤ keep) (hkp : keep ≤ 100) (w : World) :
    Calls Try.prog 4 #[.int .u64 sd, .int .i64 n, .int .i64 step, .int .i64 keep] w fun e w' => e = .returned (.bool true) ∧ Below w.heap.size w w' := by
  have i1 : 1 ≤ (n : Int) ∧ (n : Int) ≤ 1500 := by omega
  have i2 : 1 ≤ (step : Int) ∧ (step : Int) ≤ 1500 := by omega
  have i3 : 1 ≤ (keep : Int) ∧ (keep : Int) ≤ 100 := by omega
  have hB : Below w.heap.size w w := Below.refl _ _
  go_enter Try.func4, Try.ntmps4
  go_wp2_with (first
    | (go_at_call 8; refine (awake_any L _).mono ?_; rintro e w1 ⟨rfl, hb⟩; replace hB := Bt hB hb; clear hb)
    | (go_at_call 10; refine (new_is L (Law.ofBelow hB) sd hd).mono ?_; clear hB; rintro e w3 ⟨b, own, rfl, H⟩))
  clear i1 i2
  go_loopw [11] (fun i wr => ∃ (k : Nat) (own : Nat → Prop) (st : Ts), k ≤ n ∧ i = .int .i64 k ∧ SmallT st k ∧ Has9 st.l (fun x => ∃ j, j < k ∧ kkOf step j = x) ∧ Law w wr ((tbP L b own st).and Part.emp)) (fun i _ => n - (intOf i).toNat)
  case atStart => exact ⟨0, own, freshT, Nat.zero_le _, rfl, smallT_fresh, fun p => ⟨(fun hp => by cases hp), (fun ⟨_, _, ⟨j, hj, _⟩, _⟩ => absurd hj (Nat.not_lt_zero _))⟩, H⟩
  case round =>
    clear H
    obtain ⟨k, own, st, hk, rfl, hs, hh, H⟩ := hrel
    by_cases hlt : k < n
    · have hsm : SmallT st 5000 := smallT_mono hs (by omega)
      obtain ⟨m, kk, hk1, e1, e2, e3, hkn⟩ := grow_facts k step (Nat.lt_of_lt_of_le hlt hn2) hst
      have hki : (k : Int) < (n : Int) := Int.ofNat_lt.2 hlt
      have hv := kk_i64 hk1
      have S1 := hide (smallT_put hs (numK kk) kk)
      have Z1 : Hid (Has9 (putT st (numK kk) kk).l (fun x => ∃ j, j < k + 1 ∧ kkOf step j = x)) := by
        show Has9 _ _
        rw [putT_l]
        refine has9_iff (has9_put H.good.rise hh kk hk1) fun x _ => ?_
        constructor
        · rintro (rfl | ⟨j, hj, e⟩)
          · exact ⟨k, by omega, hkn⟩
          · exact ⟨j, by omega, e⟩
        · rintro ⟨j, hj, e⟩
          by_cases ej : j = k
          · subst ej; exact .inl (e.symm.trans hkn)
          · exact .inr ⟨j, by omega, e⟩
      clear hh hkn
      go_wp2_with (first
        | (go_at_call 23; refine (numbered_any kk (Nat.lt_trans hk1 (by decide)) _).mono ?_; rintro e w4 ⟨rfl, hg⟩; replace H := H.step hg; clear hg)
        | (go_at_call 12; refine (put_is L H hsm (numK kk) (by rw [numK_size]; decide) kk hv _ rfl).mono ?_; rintro e w5 ⟨⟨x, rfl⟩, own5, H5⟩))
      go_roundw
      case rel => exact ⟨k + 1, own5, _, by omega, by go_num, S1.out, Z1.out, H5⟩
      case measure => simp [intOf]; omega
    · obtain rfl : k = n := by omega
      have hsm : SmallT st 5000 := smallT_mono hs (by omega)
      have hs0 := hide hs.len
      obtain ⟨mn, hmn⟩ : ∃ x, st.l.length = x := ⟨_, rfl⟩
      have LM : Hid ((st.l.length : Int) = (mn : Int)) := by show _ = _; omega
      have hmn1 : mn ≤ k := by have := hs.len; omega
      have HM := hide hmn
      have Z0 := hide hh
      clear hmn hh hs
      go_wp2_with (go_at_call 18; refine (len_is L H hsm _ LM.out).mono ?_; clear H; rintro e w5 ⟨rfl, H⟩)
      go_loopw [14] (fun i wr => ∃ (j : Nat) (own : Nat → Prop) (st2 : Ts), j ≤ k ∧ i = .int .i64 j ∧ st2.l = st.l ∧ SmallT st2 5000 ∧ Law w wr ((tbP L b own st2).and Part.emp)) (fun i _ => k - (intOf i).toNat)
      case atStart => exact ⟨0, own, st, Nat.zero_le _, rfl, rfl, hsm, H⟩
      case round =>
        clear H
        obtain ⟨j, own2, st2, hj, rfl, hl2, hsm2, H⟩ := hrel
        by_cases hlt2 : j < k
        · skip
          obtain ⟨m, kk, hk1, e1, e2, e3, hkn⟩ := grow_facts j step (Nat.lt_of_lt_of_le hlt2 hn2) hst
          have hki : (j : Int) < (k : Int) := Int.ofNat_lt.2 hlt2
          have g1 : getL (numK kk) st2.l = some (kk : Int) := by rw [hl2]; exact has9_get (by rw [← hl2]; exact H.good.rise) Z0.out kk hk1 ⟨j, hlt2, hkn⟩
          have K1 : Hid ((getL (numK kk) st2.l).getD 0 = (kk : Int) ∧ hasT st2 (numK kk) = true) := by show _ ∧ _; unfold hasT; rw [g1]; exact ⟨rfl, rfl⟩
          have HL := hide hl2
          clear g1 hkn hl2
          go_wp2_with (first
            | (go_at_call 23; refine (numbered_any kk (Nat.lt_trans hk1 (by decide)) _).mono ?_; rintro e w4 ⟨rfl, hg⟩; replace H := H.step hg; clear hg)
            | (go_at_call 14; refine (get_is L H hsm2 (numK kk) (by rw [numK_size]; decide) _ _ K1.out.1 K1.out.2).mono ?_; clear H; rintro e w6 ⟨rfl, own6, H⟩))
          go_roundw
          case rel => exact ⟨j + 1, own6, stepT st2, by omega, by go_num, HL.out, smallT_step hsm2, H⟩
          case measure => simp [intOf]; omega
        · have Z2 : Hid (Has9 st2.l (fun x => (∃ a, a < k ∧ kkOf step a = x) ∧ ¬ ∃ a, a < 0 ∧ kkOf step a = x ∧ x % keep ≠ 0)) := by
            show Has9 _ _
            rw [hl2]
            exact has9_iff Z0.out fun x _ => ⟨fun h => ⟨h, fun ⟨a, ha, _⟩ => Nat.not_lt_zero a ha⟩, fun h => h.1⟩
          have hlm : st2.l.length = mn := by rw [hl2]; exact HM.out
          clear hl2
          go_wp2
          go_loopw [13, 18] (fun c i wr => ∃ (j : Nat) (own : Nat → Prop) (st3 : Ts), j ≤ k ∧ i = .int .i64 j ∧ c = .int .i64 st3.l.length ∧ st3.l.length ≤ k ∧ SmallT st3 5000 ∧ Has9 st3.l (fun x => (∃ a, a < k ∧ kkOf step a = x) ∧ ¬ ∃ a, a < j ∧ kkOf step a = x ∧ x % keep ≠ 0) ∧ Law w wr ((tbP L b own st3).and Part.emp)) (fun _ i _ => k - (intOf i).toNat)
          case atStart => exact ⟨0, own2, st2, Nat.zero_le _, rfl, by rw [hlm], by rw [hlm]; exact hmn1, hsm2, Z2.out, H⟩
          case round =>
            clear H Z2 hlm hsm2 hsm hs0 LM HM
            obtain ⟨j, own3, st3, hj, rfl, rfl, hlen3, hsm3, hh3, H⟩ := hrel
            by_cases hlt3 : j < k
            · obtain ⟨m, kk, hk1, e1, e2, e3, hkn⟩ := grow_facts j step (Nat.lt_of_lt_of_le hlt3 hn2) hst
              have hki : (j : Int) < (k : Int) := Int.ofNat_lt.2 hlt3
              obtain ⟨r, hr⟩ : ∃ r, kk % keep = r := ⟨_, rfl⟩
              have e4 : Int.tmod (kk : Int) (keep : Int) = (r : Int) := tmod_nat hr
              have nk : ((keep : Int) == 0) = false := beq_eq_false_iff_ne.2 (by omega)
              by_cases hr0 : r = 0
              · subst hr0
                have Z3 : Hid (Has9 st3.l (fun x => (∃ a, a < k ∧ kkOf step a = x) ∧ ¬ ∃ a, a < j + 1 ∧ kkOf step a = x ∧ x % keep ≠ 0)) := has9_iff hh3 fun x _ => by
                  refine and_congr_right fun _ => not_congr ⟨fun ⟨a, h1, h2⟩ => ⟨a, by omega, h2⟩, fun ⟨a, h1, h2, h3⟩ => ?_⟩
                  by_cases ea : a = j
                  · subst ea
                    exact absurd (by rw [← h2, hkn]; exact hr) h3
                  · exact ⟨a, by omega, h2, h3⟩
                clear hh3 hr hkn
                go_wp2
                go_roundw
                case rel => exact ⟨j + 1, own3, st3, by omega, by go_num, rfl, hlen3, hsm3, Z3.out, H⟩
                case measure => simp [intOf]; omega
              · have rne : ((r : Int) != 0) = true := bne_iff_ne.2 (by omega)
                have hrn : ¬ (r : Int) = 0 := by omega
                have Z3 : Hid (Has9 (delT st3 (numK kk)).l (fun x => (∃ a, a < k ∧ kkOf step a = x) ∧ ¬ ∃ a, a < j + 1 ∧ kkOf step a = x ∧ x % keep ≠ 0)) := has9_iff (has9_del hh3 kk hk1) fun x _ => by
                  constructor
                  · rintro ⟨⟨h1, h2⟩, h3⟩
                    refine ⟨h1, fun ⟨a, h4, h5, h6⟩ => ?_⟩
                    by_cases ea : a = j
                    · subst ea; exact h3 (h5.symm.trans hkn)
                    · exact h2 ⟨a, by omega, h5, h6⟩
                  · rintro ⟨h1, h2⟩
                    exact ⟨⟨h1, fun ⟨a, h4, h5⟩ => h2 ⟨a, by omega, h5⟩⟩, fun e => h2 ⟨j, by omega, hkn.trans e.symm, by rw [e, hr]; exact hr0⟩⟩
                have hdl := del_len H.good.rise (numK kk)
                have hdl2 : (delT st3 (numK kk)).l = delL (numK kk) st3.l := rfl
                obtain ⟨q, hq⟩ : ∃ q, hasT st3 (numK kk) = q := ⟨_, rfl⟩
                have hq2 : (getL (numK kk) st3.l).isSome = q := hq
                rw [hq2] at hdl
                have Q1 := hide hq
                have S3 := smallT_del hsm3 (numK kk)
                obtain ⟨t3, T3⟩ : ∃ t, delT st3 (numK kk) = t := ⟨_, rfl⟩
                rw [T3] at Z3 S3 hdl2
                rw [← hdl2] at hdl
                have HT3 := hide T3
                clear hh3 hr hkn hr0 hq hq2 hdl2 T3
                cases q with
                | true =>
                  obtain ⟨c1, c2, c3⟩ := sub_facts hdl (Nat.le_trans hlen3 hn2)
                  have HL3 := hide (Nat.le_trans c3 hlen3)
                  clear c3 hdl
                  go_wp2_with (first
                    | (go_at_call 23; refine (numbered_any kk (Nat.lt_trans hk1 (by decide)) _).mono ?_; rintro e w4 ⟨rfl, hg⟩; replace H := H.step hg; clear hg)
                    | (go_at_call 16; refine (del_is L H hsm3 (numK kk) (by rw [numK_size]; decide) _ Q1.out).mono ?_; clear H; rintro e w7 ⟨rfl, own7, H⟩; rw [HT3.out] at H))
                  go_roundw
                  case rel => exact ⟨j + 1, own7, t3, by omega, by go_num, by go_num, HL3.out, S3, Z3.out, H⟩
                  case measure => simp [intOf]; omega
                | false =>
                  have c1 : st3.l.length = t3.l.length := by simp at hdl; omega
                  rw [c1] at hlen3 ⊢
                  clear c1 hdl
                  go_wp2_with (first
                    | (go_at_call 23; refine (numbered_any kk (Nat.lt_trans hk1 (by decide)) _).mono ?_; rintro e w4 ⟨rfl, hg⟩; replace H := H.step hg; clear hg)
                    | (go_at_call 16; refine (del_is L H hsm3 (numK kk) (by rw [numK_size]; decide) _ Q1.out).mono ?_; clear H; rintro e w7 ⟨rfl, own7, H⟩; rw [HT3.out] at H))
                  go_roundw
                  case rel => exact ⟨j + 1, own7, t3, by omega, by go_num, rfl, hlen3, S3, Z3.out, H⟩
                  case measure => simp [intOf]; omega
            · obtain rfl : j = k := Nat.le_antisymm hj (Nat.not_lt.1 hlt3)
              have hE : Hid (∀ p ∈ st3.l, ∃ x : Nat, p.2 = (x : Int) ∧ x % keep = 0) := fun p hp => by
                obtain ⟨x, _, ⟨⟨a, ha, e⟩, h2⟩, rfl⟩ := (hh3 p).1 hp
                exact ⟨x, rfl, Classical.byContradiction fun hx => h2 ⟨a, ha, e, hx⟩⟩
              have hR := hide H.good.rise
              have K1 : Hid (st3.l.take (3000 : Int).toNat = st3.l) := List.take_of_length_le (Nat.le_trans hlen3 (Nat.le_trans hn2 (by decide)))
              clear hh3
              go_wp2_with (go_at_call 22; refine (all_is L H hsm3 3000 (by decide) _ K1.out).mono ?_; clear H K1; rintro e w8 ⟨va, rfl, H⟩; obtain ⟨pa, ca, rfl⟩ := own_shape H.q.2.1.1; obtain ⟨hca, hcm⟩ := own_cap H.q.2.1.1; unfold maxLen at hcm)
              go_loopw [21] (fun i wr => ∃ q : Nat, q ≤ st3.l.length ∧ i = .int .i64 q ∧ Law w wr ((tbP L b own3 st3).and ((pairsP w.heap.size (.slice pa st3.l.length ca) st3.l).and Part.emp))) (fun i _ => st3.l.length - (intOf i).toNat)
              case atStart => exact ⟨0, Nat.zero_le _, rfl, H⟩
              case round =>
                clear H
                obtain ⟨q, hq, rfl, H⟩ := hrel
                by_cases hql : q < st3.l.length
                · obtain ⟨pp, cp, e0, hc, -⟩ := pairs_own H.q.2.1.1
                  cases e0
                  have hqx : st3.l[q]? = some st3.l[q] := List.getElem?_eq_getElem hql
                  obtain ⟨g, off, rfl, c1, c2⟩ := hc q _ hqx
                  obtain ⟨x, hx1, hx2⟩ := hE.out _ (List.getElem_mem hql)
                  rw [hx1] at c2
                  have e4 : Int.tmod (x : Int) (keep : Int) = ((0 : Nat) : Int) := tmod_nat hx2
                  have nk : ((keep : Int) == 0) = false := beq_eq_false_iff_ne.2 (by omega)
                  have hqi : (q : Int) < (st3.l.length : Int) := Int.ofNat_lt.2 hql
                  rcases Nat.eq_zero_or_pos q with h0 | h0
                  · subst h0
                    clear hc hqx hx1 hx2
                    generalize st3.l[0] = p0 at *
                    go_wp2
                    go_quiet (fail)
                    go_wp2
                    go_roundw
                    case rel => exact ⟨1, hql, by go_num, H.drewN _⟩
                    case measure => simp [intOf]; omega
                  · obtain ⟨r, hr⟩ := prev_ex h0
                    obtain ⟨hrl, e5, e6, hd, hri, HQ15⟩ := prev_facts hr hql (Nat.le_trans hlen3 hn2)
                    have hrx : st3.l[r]? = some st3.l[r] := List.getElem?_eq_getElem hrl
                    obtain ⟨g', off', e0, c3, -⟩ := hc r _ hrx
                    cases e0
                    have hlt9 : Op.bytesLess (st3.l[r]).1.toList (st3.l[q]).1.toList = true := by
                      rw [ltK_bytes]
                      exact List.pairwise_iff_getElem.1 hR.out r q hrl hql (by rw [hr]; exact Nat.lt_succ_self r)
                    have hix1 := index_pair g off st3.l.length ca q hql
                    have hix2 := index_pair g off st3.l.length ca r hrl
                    have hd2 : decide (0 < q) = true := decide_eq_true h0
                    clear hc hqx hrx hx1 hx2 hr
                    generalize (st3.l[r]).1 = k1 at *
                    generalize (st3.l[q]).1 = k2 at *
                    go_wp2
                    have HQ := hide hql
                    clear hql hq hqi hri hrl hlen3 hca hcm hj hlt3 hlt2 hmn1 hk hlt hn1 hn2 hst1 hst hkp1 hkp
                    go_quiet (fail)
                    clear e5 e6 e4 nk hd hd2 h0 hix1 hix2
                    have hq15 := HQ15.out
                    go_wp2
                    go_roundw
                    case rel => exact ⟨q + 1, HQ.out, by go_num, H.drewN _⟩
                    case measure => have := HQ.out; simp [intOf]; omega
                · have hli : (st3.l.length : Int) ≤ (j : Int) := Int.ofNat_le.2 hlen3
                  go_wp2_with (go_at_call 18; refine (len_is L H hsm3 _ rfl).mono ?_; clear H; rintro e w9 ⟨rfl, H⟩; have hB := H.below)
                  go_ret
                  exact ⟨by simp, hB⟩
end Go.Proofs.Ytncblaofgdcfmaa
