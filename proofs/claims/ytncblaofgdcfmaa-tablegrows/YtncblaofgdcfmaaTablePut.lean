/- The contract of Put of package table. Conditions: at most 5000 texts, of at most 300 bytes each. -/
import Derived.Test.YtncblaofgdcfmaaTableOps
namespace Go.Proofs.Ytncblaofgdcfmaa
open Go.RowKit

theorem Tab.drew {F : Nat → Prop} {w0 w : World} {b : Nat} {st : Ts} (h : Tab F w0 w b st) : Tab F w0 w.drew b st := h.step ⟨rfl, rfl, rfl, Nat.le_refl _, fun _ _ _ => rfl⟩
theorem Tab.drewN {F : Nat → Prop} {w0 w : World} {b : Nat} {st : Ts} (h : Tab F w0 w b st) (j : Nat) : Tab F w0 (w.drewN j) b st := h.step ⟨rfl, rfl, rfl, Nat.le_refl _, fun _ _ _ => rfl⟩
section
variable {w : World} {b : Nat} {own : Nat → Prop} {st : Ts}
set_option maxRecDepth 100000 in
set_option maxHeartbeats 4000000 in
theorem tput_any (h : Tb0 w b own st) (hS : SmallT st 5000) (s : ByteArray) (hs : s.size ≤ 300) (v : Int) : Calls Try.prog 12 #[.pointer (some ⟨b, 0, none⟩), .string s, .int .i64 v] w fun e w' => (∃ x, e = .returned x) ∧ ∃ own', Tb0 w' b own' (putT st s v) ∧ Gr own w w' ∧ Grew w own own' := by
  have hG := h.good
  have hG1 := good_step hG
  have hS1 := smallT_step hS
  have h8 := hG.eight
  have hN := hS.buckets
  have hlen := hS.len
  have HM := hide (move_any h.tab hG hS)
  have HP := hide (fun W (t : Tab own w W b (stepT st)) => spot_any t hG1 hS1 s hs)
  have HQ := hide (fun W g i (t : Spot own w W b (stepT st) s g i) => spot_put t h.tab.short hs v)
  have HG := hide (good_put hG s v)
  have hpl := len_putL s v st.l
  obtain ⟨st', hst⟩ : ∃ st' : Ts, st' = ⟨putL s v st.l, st.buckets, st.left - 1⟩ := ⟨_, rfl⟩
  have HE : Hid (putT st s v = growT st') := by
    show _ = _
    rw [hst]
    rfl
  have HT : Hid (∀ W g i, Spot own w W b (stepT st) s g i → (Calls Try.prog 26 #[.pointer (some ⟨g, i, none⟩), .string s, .int .i64 v] W fun e w' => e = .returned (.bool (!hasT st s)) ∧ Tabm own w w' b st' st.l.length) ∧ st'.l.length = st.l.length + (if hasT st s then 0 else 1)) := by
    intro W g i t
    rw [hst]
    exact HQ.out W g i t
  have hpl' : st'.l.length ≤ 5001 := by rw [hst]; show (putL s v st.l).length ≤ 5001; omega
  have h8' : 8 ≤ st'.buckets := by rw [hst]; exact h8
  have hN' : st'.buckets ≤ 8 + 2 * 5000 := by rw [hst]; exact hN
  have hcase : (2 * st'.buckets < st'.l.length ∧ st'.left = 0) ∨ (2 * st'.buckets < st'.l.length ∧ st'.left ≠ 0) ∨ ¬ 2 * st'.buckets < st'.l.length := by omega
  clear h hG hG1 hS hS1 HQ hst h8 hN hpl
  cases hh : hasT st s with
  | true =>
    rw [hh] at HT
    clear hh
    rcases hcase with ⟨hA, hB⟩ | ⟨hA, hB⟩ | hA
    · go_enter Try.func12, Try.ntmps12
      go_upto_region 3 with (first
        | (go_at_call 24; refine HM.out.mono ?_; rintro e w1 ⟨rfl, t1⟩; replace t1 := hide t1)
        | (go_at_call 25; refine (HP.out _ t1.out).mono ?_; rintro e w2 ⟨g, i, rfl, t2⟩; replace t2 := hide t2)
        | (go_at_call 26; obtain ⟨q1, q2⟩ := HT.out _ _ _ t2.out; refine q1.mono ?_; rintro e w3 ⟨rfl, t3⟩; have q3 : st'.l.length = st.l.length := q2; rw [← q3] at t3; replace t3 := hide (Tabm.tab t3); clear q1 q2 q3))
      obtain ⟨aB, cB, aE, cE, c1, c2, c3⟩ := t3.out.cells
      obtain ⟨m, hm⟩ : ∃ m, st'.l.length = m := ⟨_, rfl⟩
      obtain ⟨N, hNN⟩ : ∃ N, st'.buckets = N := ⟨_, rfl⟩
      rw [hm] at c1 hA hpl'
      rw [hNN] at c2 hA h8' hN'
      rw [hB] at c3
      have e2 : wrap64 (2 * (N : Int)) = 2 * (N : Int) := by unfold wrap64; omega
      have d1 : decide (2 * (N : Int) < (m : Int)) = true := decide_eq_true (by omega)
      have HGr := hide (fun W (t : Tab own w W b st') => grow_any t (by rw [hNN]; exact h8') hB (by rw [hNN]; omega))
      go_quiet (fail)
      go_wp2_with (go_at_call 27; refine (HGr.out _ (t3.out.drewN nq)).mono ?_; rintro e w4 ⟨rfl, t4⟩; replace t4 := hide t4)
      go_end0
      have hgt : growT st' = ⟨st'.l, 2 * st'.buckets, st'.buckets⟩ := by unfold growT; rw [if_pos ⟨by omega, hB⟩]
      rw [HE.out, hgt]
      have h := HG.out
      rw [HE.out, hgt] at h
      exact ⟨⟨_, rfl⟩, t4.out.done h⟩
    · go_enter Try.func12, Try.ntmps12
      go_upto_region 3 with (first
        | (go_at_call 24; refine HM.out.mono ?_; rintro e w1 ⟨rfl, t1⟩; replace t1 := hide t1)
        | (go_at_call 25; refine (HP.out _ t1.out).mono ?_; rintro e w2 ⟨g, i, rfl, t2⟩; replace t2 := hide t2)
        | (go_at_call 26; obtain ⟨q1, q2⟩ := HT.out _ _ _ t2.out; refine q1.mono ?_; rintro e w3 ⟨rfl, t3⟩; have q3 : st'.l.length = st.l.length := q2; rw [← q3] at t3; replace t3 := hide (Tabm.tab t3); clear q1 q2 q3))
      obtain ⟨aB, cB, aE, cE, c1, c2, c3⟩ := t3.out.cells
      obtain ⟨m, hm⟩ : ∃ m, st'.l.length = m := ⟨_, rfl⟩
      obtain ⟨N, hNN⟩ : ∃ N, st'.buckets = N := ⟨_, rfl⟩
      rw [hm] at c1 hA hpl'
      rw [hNN] at c2 hA h8' hN'
      obtain ⟨lf, hlf⟩ : ∃ lf, st'.left = lf := ⟨_, rfl⟩
      rw [hlf] at c3 hB
      have e2 : wrap64 (2 * (N : Int)) = 2 * (N : Int) := by unfold wrap64; omega
      have d1 : decide (2 * (N : Int) < (m : Int)) = true := decide_eq_true (by omega)
      have d2 : ((lf : Int) == 0) = false := beq_eq_false_iff_ne.2 (by omega)
      go_quiet (fail)
      go_wp2
      go_end0
      have hgt : growT st' = st' := by unfold growT; rw [if_neg (fun hc => hB (hlf ▸ hc.2))]
      rw [HE.out, hgt]
      have h := HG.out
      rw [HE.out, hgt] at h
      exact ⟨⟨_, rfl⟩, (t3.out.drewN nq).done h⟩
    · go_enter Try.func12, Try.ntmps12
      go_upto_region 3 with (first
        | (go_at_call 24; refine HM.out.mono ?_; rintro e w1 ⟨rfl, t1⟩; replace t1 := hide t1)
        | (go_at_call 25; refine (HP.out _ t1.out).mono ?_; rintro e w2 ⟨g, i, rfl, t2⟩; replace t2 := hide t2)
        | (go_at_call 26; obtain ⟨q1, q2⟩ := HT.out _ _ _ t2.out; refine q1.mono ?_; rintro e w3 ⟨rfl, t3⟩; have q3 : st'.l.length = st.l.length := q2; rw [← q3] at t3; replace t3 := hide (Tabm.tab t3); clear q1 q2 q3))
      obtain ⟨aB, cB, aE, cE, c1, c2, c3⟩ := t3.out.cells
      obtain ⟨m, hm⟩ : ∃ m, st'.l.length = m := ⟨_, rfl⟩
      obtain ⟨N, hNN⟩ : ∃ N, st'.buckets = N := ⟨_, rfl⟩
      rw [hm] at c1 hA hpl'
      rw [hNN] at c2 hA h8' hN'
      have e2 : wrap64 (2 * (N : Int)) = 2 * (N : Int) := by unfold wrap64; omega
      have d1 : decide (2 * (N : Int) < (m : Int)) = false := decide_eq_false (by omega)
      go_quiet (fail)
      go_wp2
      go_end0
      have hgt : growT st' = st' := by unfold growT; rw [if_neg (fun hc => hA (by omega))]
      rw [HE.out, hgt]
      have h := HG.out
      rw [HE.out, hgt] at h
      exact ⟨⟨_, rfl⟩, (t3.out.drewN nq).done h⟩
  | false =>
    rw [hh] at HT
    clear hh
    rcases hcase with ⟨hA, hB⟩ | ⟨hA, hB⟩ | hA
    · go_enter Try.func12, Try.ntmps12
      go_upto_region 3 with (first
        | (go_at_call 24; refine HM.out.mono ?_; rintro e w1 ⟨rfl, t1⟩; replace t1 := hide t1)
        | (go_at_call 25; refine (HP.out _ t1.out).mono ?_; rintro e w2 ⟨g, i, rfl, t2⟩; replace t2 := hide t2)
        | (go_at_call 26; obtain ⟨q1, q2⟩ := HT.out _ _ _ t2.out; refine q1.mono ?_; rintro e w5 ⟨rfl, t3⟩; obtain ⟨m1, m2, m3⟩ := t3.many; have q3 : st'.l.length = st.l.length + 1 := q2; replace m3 := hide (Tabm.tab (m3 st'.l.length)); rw [q3] at m3; obtain ⟨d, hd⟩ : ∃ d, st.l.length = d := ⟨_, rfl⟩; rw [hd] at m1 m3 hlen; have e1 : wrap64 ((d : Int) + 1) = (d : Int) + 1 := (by unfold wrap64; omega); have e5 : (((d + 1 : Nat) : Int)) = (d : Int) + 1 := rfl; rw [e5] at m3; clear q1 q2 q3 t3 e5))
      generalize (w5.setCell ⟨b, 1, none⟩ (.int .i64 ((d : Int) + 1))) = w3 at *
      have t3 := m3
      clear m1 m2 m3 e1
      obtain ⟨aB, cB, aE, cE, c1, c2, c3⟩ := t3.out.cells
      obtain ⟨m, hm⟩ : ∃ m, st'.l.length = m := ⟨_, rfl⟩
      obtain ⟨N, hNN⟩ : ∃ N, st'.buckets = N := ⟨_, rfl⟩
      rw [hm] at c1 hA hpl'
      rw [hNN] at c2 hA h8' hN'
      rw [hB] at c3
      have e2 : wrap64 (2 * (N : Int)) = 2 * (N : Int) := by unfold wrap64; omega
      have d1 : decide (2 * (N : Int) < (m : Int)) = true := decide_eq_true (by omega)
      have HGr := hide (fun W (t : Tab own w W b st') => grow_any t (by rw [hNN]; exact h8') hB (by rw [hNN]; omega))
      go_quiet (fail)
      go_wp2_with (go_at_call 27; refine (HGr.out _ (t3.out.drewN nq)).mono ?_; rintro e w4 ⟨rfl, t4⟩; replace t4 := hide t4)
      go_end0
      have hgt : growT st' = ⟨st'.l, 2 * st'.buckets, st'.buckets⟩ := by unfold growT; rw [if_pos ⟨by omega, hB⟩]
      rw [HE.out, hgt]
      have h := HG.out
      rw [HE.out, hgt] at h
      exact ⟨⟨_, rfl⟩, t4.out.done h⟩
    · go_enter Try.func12, Try.ntmps12
      go_upto_region 3 with (first
        | (go_at_call 24; refine HM.out.mono ?_; rintro e w1 ⟨rfl, t1⟩; replace t1 := hide t1)
        | (go_at_call 25; refine (HP.out _ t1.out).mono ?_; rintro e w2 ⟨g, i, rfl, t2⟩; replace t2 := hide t2)
        | (go_at_call 26; obtain ⟨q1, q2⟩ := HT.out _ _ _ t2.out; refine q1.mono ?_; rintro e w5 ⟨rfl, t3⟩; obtain ⟨m1, m2, m3⟩ := t3.many; have q3 : st'.l.length = st.l.length + 1 := q2; replace m3 := hide (Tabm.tab (m3 st'.l.length)); rw [q3] at m3; obtain ⟨d, hd⟩ : ∃ d, st.l.length = d := ⟨_, rfl⟩; rw [hd] at m1 m3 hlen; have e1 : wrap64 ((d : Int) + 1) = (d : Int) + 1 := (by unfold wrap64; omega); have e5 : (((d + 1 : Nat) : Int)) = (d : Int) + 1 := rfl; rw [e5] at m3; clear q1 q2 q3 t3 e5))
      generalize (w5.setCell ⟨b, 1, none⟩ (.int .i64 ((d : Int) + 1))) = w3 at *
      have t3 := m3
      clear m1 m2 m3 e1
      obtain ⟨aB, cB, aE, cE, c1, c2, c3⟩ := t3.out.cells
      obtain ⟨m, hm⟩ : ∃ m, st'.l.length = m := ⟨_, rfl⟩
      obtain ⟨N, hNN⟩ : ∃ N, st'.buckets = N := ⟨_, rfl⟩
      rw [hm] at c1 hA hpl'
      rw [hNN] at c2 hA h8' hN'
      obtain ⟨lf, hlf⟩ : ∃ lf, st'.left = lf := ⟨_, rfl⟩
      rw [hlf] at c3 hB
      have e2 : wrap64 (2 * (N : Int)) = 2 * (N : Int) := by unfold wrap64; omega
      have d1 : decide (2 * (N : Int) < (m : Int)) = true := decide_eq_true (by omega)
      have d2 : ((lf : Int) == 0) = false := beq_eq_false_iff_ne.2 (by omega)
      go_quiet (fail)
      go_wp2
      go_end0
      have hgt : growT st' = st' := by unfold growT; rw [if_neg (fun hc => hB (hlf ▸ hc.2))]
      rw [HE.out, hgt]
      have h := HG.out
      rw [HE.out, hgt] at h
      exact ⟨⟨_, rfl⟩, (t3.out.drewN nq).done h⟩
    · go_enter Try.func12, Try.ntmps12
      go_upto_region 3 with (first
        | (go_at_call 24; refine HM.out.mono ?_; rintro e w1 ⟨rfl, t1⟩; replace t1 := hide t1)
        | (go_at_call 25; refine (HP.out _ t1.out).mono ?_; rintro e w2 ⟨g, i, rfl, t2⟩; replace t2 := hide t2)
        | (go_at_call 26; obtain ⟨q1, q2⟩ := HT.out _ _ _ t2.out; refine q1.mono ?_; rintro e w5 ⟨rfl, t3⟩; obtain ⟨m1, m2, m3⟩ := t3.many; have q3 : st'.l.length = st.l.length + 1 := q2; replace m3 := hide (Tabm.tab (m3 st'.l.length)); rw [q3] at m3; obtain ⟨d, hd⟩ : ∃ d, st.l.length = d := ⟨_, rfl⟩; rw [hd] at m1 m3 hlen; have e1 : wrap64 ((d : Int) + 1) = (d : Int) + 1 := (by unfold wrap64; omega); have e5 : (((d + 1 : Nat) : Int)) = (d : Int) + 1 := rfl; rw [e5] at m3; clear q1 q2 q3 t3 e5))
      generalize (w5.setCell ⟨b, 1, none⟩ (.int .i64 ((d : Int) + 1))) = w3 at *
      have t3 := m3
      clear m1 m2 m3 e1
      obtain ⟨aB, cB, aE, cE, c1, c2, c3⟩ := t3.out.cells
      obtain ⟨m, hm⟩ : ∃ m, st'.l.length = m := ⟨_, rfl⟩
      obtain ⟨N, hNN⟩ : ∃ N, st'.buckets = N := ⟨_, rfl⟩
      rw [hm] at c1 hA hpl'
      rw [hNN] at c2 hA h8' hN'
      have e2 : wrap64 (2 * (N : Int)) = 2 * (N : Int) := by unfold wrap64; omega
      have d1 : decide (2 * (N : Int) < (m : Int)) = false := decide_eq_false (by omega)
      go_quiet (fail)
      go_wp2
      go_end0
      have hgt : growT st' = st' := by unfold growT; rw [if_neg (fun hc => hA (by omega))]
      rw [HE.out, hgt]
      have h := HG.out
      rw [HE.out, hgt] at h
      exact ⟨⟨_, rfl⟩, (t3.out.drewN nq).done h⟩
end
end Go.Proofs.Ytncblaofgdcfmaa
