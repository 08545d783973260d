/- What ExecTouches and ExecSwaps ask, on a shard of lists. Nothing of the program is run here. Conditions: none. -/
import Derived.Test.YthfkcbnabnmnjabGreatDoorG51Joined
namespace Go.Proofs.YthfkcbnabnmnjabGreatDoor
set_option linter.unusedVariables false
open Go.RowKit

section
variable {n sd : Nat} {h : Hs} {k : ByteArray} {en : En} {i : Iv} {c : Cv}
theorem living_dead (H : HasI h k i) (hl : liveI i en = false) : livingH h k en = none := by
  obtain ⟨ck, hf⟩ := H
  unfold livingH
  rw [hf]
  show (if liveI i en = true then _ else _) = _
  rw [hl]
  rfl
theorem touches_ex (g : GoodH n h) (sd : Nat) (k : ByteArray) (hk : k.size ≤ 140737488351232) (hb : h.slab.bud ≤ 57600) (op exp later : Int) (hop : op = 1 ∨ op = 2) (e0 : 1 ≤ exp) (e1 : exp ≤ 2592000) (l0 : 0 ≤ later) (l1 : later ≤ 5184000) :
    ∃ r1 t1 r2 t2 r3 t3, doH sd h (setC k [] 0 0 0) ⟨5, 0, 0, 0⟩ = (r1, t1) ∧ doH sd t1 (bareC op k exp) ⟨5, 0, 0, 0⟩ = (r2, t2) ∧ doH sd t2 (getC k) ⟨5 + later, 0, 0, 0⟩ = (r3, t3) ∧
      (r1.s = 2 → (op = 2 → r2.s = 6) ∧ (op = 1 → r2.s = 0 ∧ r2.ttl = exp) ∧ (exp ≤ later → r3.s = 1) ∧ (later < exp → r3.s = 0 ∧ r3.ttl = exp - later)) := by
  obtain ⟨r1, t1, q1⟩ := pair_ex (doH sd h (setC k [] 0 0 0) ⟨5, 0, 0, 0⟩)
  obtain ⟨r2, t2, q2⟩ := pair_ex (doH sd t1 (bareC op k exp) ⟨5, 0, 0, 0⟩)
  obtain ⟨r3, t3, q3⟩ := pair_ex (doH sd t2 (getC k) ⟨5 + later, 0, 0, 0⟩)
  refine ⟨r1, t1, r2, t2, r3, t3, q1, q2, q3, fun hs => ?_⟩
  have hen : (En.mk 5 0 0 0).ok := ⟨⟨by decide, by decide⟩, zu64, z64, zu64⟩
  have ok1 : (setC k [] 0 0 0).ok := ⟨⟨by show (-9223372036854775808 : Int) ≤ 3; decide, by show (3 : Int) < 9223372036854775808; decide⟩, hk, Nat.zero_le _, z64, zu64, zu64, zu64⟩
  have g1 := (good_do g sd ok1 hen (.inr hb)).1
  have hd := set_done g (c := setC k [] 0 0 0) (.inl rfl) (sd := sd) (en := ⟨5, 0, 0, 0⟩) (by rw [q1]; exact hs)
  rw [q1] at hd g1
  have H1 : HasI t1 k (newI k [] 0 0 ⟨5, 0, 0, 0⟩) := hd.2.1
  have hl1 : liveI (newI k [] 0 0 ⟨5, 0, 0, 0⟩) ⟨5, 0, 0, 0⟩ = true := live_new rfl (.inl rfl)
  have hat : atW exp 5 = 5 + exp := by
    have hm : max (5 : Int) 1 = 5 := by omega
    unfold atW
    rw [if_neg (by omega), if_neg (by omega), if_pos e1, hm]
    unfold wrap64
    omega
  have H2 : ∃ sn, HasI t2 k ⟨k, [], 0, 5 + exp, nextU 0, 5, 0, false, false, sn⟩ := by
    rcases hop with rfl | rfl
    · obtain ⟨t, e, H2⟩ := gat_has (sd := sd) g1 exp H1 hl1
      rw [q2] at e
      rw [show t2 = t from congrArg Prod.snd e]
      rw [show atW exp (En.mk 5 0 0 0).now = 5 + exp from hat] at H2
      exact ⟨true, H2⟩
    · obtain ⟨t, e, H2⟩ := touch_has (sd := sd) g1 exp H1 hl1
      rw [q2] at e
      rw [show t2 = t from congrArg Prod.snd e]
      rw [show atW exp (En.mk 5 0 0 0).now = 5 + exp from hat] at H2
      exact ⟨false, H2⟩
  obtain ⟨sn, H2⟩ := H2
  refine ⟨fun e => ?_, fun e => ?_, fun e => ?_, fun e => ?_⟩
  · subst e
    obtain ⟨t, e, _⟩ := touch_has (sd := sd) g1 exp H1 hl1
    rw [q2] at e
    rw [show r2 = onlyR 6 from congrArg Prod.fst e]
    rfl
  · subst e
    obtain ⟨t, e, _⟩ := gat_has (sd := sd) g1 exp H1 hl1
    rw [q2] at e
    rw [show r2 = viewR _ _ from congrArg Prod.fst e]
    refine ⟨rfl, ?_⟩
    show ttlN (atW exp 5) 5 = exp
    rw [hat]
    unfold ttlN
    rw [if_neg (by omega), if_neg (by omega)]
    unfold wrap64
    omega
  · have hdead : liveI ⟨k, [], 0, 5 + exp, nextU 0, 5, 0, false, false, sn⟩ ⟨5 + later, 0, 0, 0⟩ = false := by
      unfold liveI liveN
      dsimp only
      rw [if_pos ⟨by omega, by omega⟩]
    have := get_miss (sd := sd) (living_dead H2 hdead)
    rw [q3] at this
    rw [show r3 = onlyR 1 from congrArg Prod.fst this]
    rfl
  · have hlv : liveI ⟨k, [], 0, 5 + exp, nextU 0, 5, 0, false, false, sn⟩ ⟨5 + later, 0, 0, 0⟩ = true := by
      unfold liveI liveN
      dsimp only
      rw [if_neg (by omega), if_pos (.inl rfl)]
    have := get_has (sd := sd) H2 hlv
    rw [q3] at this
    rw [show r3 = viewR _ _ from congrArg Prod.fst this]
    refine ⟨rfl, ?_⟩
    show ttlN (5 + exp) (5 + later) = exp - later
    unfold ttlN
    rw [if_neg (by omega), if_neg (by omega)]
    unfold wrap64
    omega
theorem next_is {s : Int} (h0 : 0 ≤ s) (h1 : s < 18446744073709551615) : nextU s = s + 1 := by unfold nextU; omega
theorem swaps_ex (g : GoodH n h) (sd : Nat) (k : ByteArray) (hk : k.size ≤ 250) (hb : h.slab.bud = 4000) (q : Int) (q0 : 1000 ≤ q) (q1 : q ≤ 1152921504606846976) :
    ∃ r1 t1 r2 t2, doH sd h (setC k [49] 0 0 0) ⟨5, q, 0, 0⟩ = (r1, t1) ∧ doH sd t1 (getC k) ⟨5, q + 1, 0, 0⟩ = (r2, t2) ∧ (r1.s = 2 → r2.cas = q + 1 ∧
      ∃ r3 t3 t4 t5 r6 t6, doH sd t2 (setC k [50] 0 0 (q + 1)) ⟨5, q + 2, 0, 0⟩ = (r3, t3) ∧ r3.s = 2 ∧ doH sd t3 (setC k [51] 0 0 (q + 1)) ⟨5, q + 3, 0, 0⟩ = (onlyR 4, t4) ∧ doH sd t4 (delC k (q + 1)) ⟨5, q + 4, 0, 0⟩ = (onlyR 4, t5) ∧ doH sd t5 (getC k) ⟨5, q + 5, 0, 0⟩ = (r6, t6) ∧ r6.val = [50]) := by
  have hk' : k.size ≤ 140737488351232 := Nat.le_trans hk (by decide)
  have hen : ∀ j : Int, 0 ≤ j → j ≤ 5 → (En.mk 5 (q + j) 0 0).ok := fun j h0 h1 => ⟨⟨by show (-9223372036854775808 : Int) ≤ 5; decide, by show (5 : Int) < 9223372036854775808; decide⟩, ⟨by show 0 ≤ q + j; omega, by show q + j < 18446744073709551616; omega⟩, z64, zu64⟩
  have okS : ∀ (v : UInt8) (cas : Int), U64 cas → (setC k [v] 0 0 cas).ok := fun v cas hc => ⟨⟨by show (-9223372036854775808 : Int) ≤ 3; decide, by show (3 : Int) < 9223372036854775808; decide⟩, hk', (by show 1 ≤ 140737488351232; decide), z64, hc, zu64, zu64⟩
  have hbb : h.slab.bud ≤ 57600 := by omega
  obtain ⟨r1, t1, e1⟩ := pair_ex (doH sd h (setC k [49] 0 0 0) ⟨5, q, 0, 0⟩)
  obtain ⟨r2, t2, e2⟩ := pair_ex (doH sd t1 (getC k) ⟨5, q + 1, 0, 0⟩)
  have en0 : (En.mk 5 q 0 0).ok := by have := hen 0 (by decide) (by decide); rwa [Int.add_zero] at this
  have G1 := good_do g sd (okS 49 0 zu64) en0 (.inr hbb)
  rw [e1] at G1
  obtain ⟨g1, b1⟩ := G1
  have G2 := good_do g1 sd (get_ok hk') (hen 1 (by decide) (by decide)) (.inr (by show t1.slab.bud ≤ 57600; rw [b1]; exact hbb))
  rw [e2] at G2
  obtain ⟨g2, b2⟩ := G2
  refine ⟨r1, t1, r2, t2, e1, e2, fun hs => ?_⟩
  have hd := set_done g (c := setC k [49] 0 0 0) (.inl rfl) (sd := sd) (en := ⟨5, q, 0, 0⟩) (by rw [e1]; exact hs)
  rw [e1] at hd
  have H1 : HasI t1 k (newI k [49] 0 0 ⟨5, q, 0, 0⟩) := hd.2.1
  have hn1 : nextU q = q + 1 := next_is (by omega) (by omega)
  have live : ∀ (v : List UInt8) (cas sec sq : Int) (sn : Bool) (j : Int), liveI ⟨k, v, 0, 0, cas, sec, sq, false, false, sn⟩ ⟨5, q + j, 0, 0⟩ = true := fun v cas sec sq sn j => by
    unfold liveI liveN
    dsimp only
    rw [if_neg (by omega), if_pos (.inl rfl)]
  have hg := get_has (sd := sd) (en := ⟨5, q + 1, 0, 0⟩) H1 (live _ _ _ _ _ 1)
  have hgk := get_keeps (sd := sd) (en := ⟨5, q + 1, 0, 0⟩) g1 H1 (live _ _ _ _ _ 1)
  rw [e2] at hg hgk
  have hc : r2.cas = q + 1 := by
    rw [show r2 = viewR _ _ from congrArg Prod.fst hg]
    exact hn1
  refine ⟨hc, ?_⟩
  have H2 : HasI t2 k ⟨k, [49], 0, 0, q + 1, 5, q, false, false, true⟩ := by rw [← hn1]; exact hgk
  obtain ⟨r3, t3, e3⟩ := pair_ex (doH sd t2 (setC k [50] 0 0 (q + 1)) ⟨5, q + 2, 0, 0⟩)
  have hs3 := set_over (sd := sd) (v := [50]) (fl := 0) (exp := 0) (cas := q + 1) (en := ⟨5, q + 2, 0, 0⟩) g2 H2 (live _ _ _ _ _ 2) (.inr rfl) (by show 50 + (k.size : Int) + ((1 : Nat) : Int) ≤ 2048; omega) (by rw [b2, b1, hb]; decide)
  have hd3 := set_done g2 (c := setC k [50] 0 0 (q + 1)) (.inl rfl) (sd := sd) (en := ⟨5, q + 2, 0, 0⟩) hs3
  rw [e3] at hs3 hd3
  have hn3 : nextU (q + 2) = q + 3 := by rw [next_is (by omega) (by omega)]; omega
  have H3 : HasI t3 k ⟨k, [50], 0, 0, q + 3, 5, q + 2, false, false, false⟩ := by rw [← hn3]; exact hd3.2.1
  have e4 := set_other (sd := sd) (v := [51]) (fl := 0) (exp := 0) (cas := q + 1) (en := ⟨5, q + 3, 0, 0⟩) H3 (live _ _ _ _ _ 3) ⟨by omega, by show q + 1 ≠ q + 3; omega⟩
  have H4 := H3.seen sd (live _ _ _ _ _ 3)
  have e5 := del_other (sd := sd) (cas := q + 1) (en := ⟨5, q + 4, 0, 0⟩) H4 (live _ _ _ _ _ 4) ⟨by omega, by show q + 1 ≠ q + 3; omega⟩
  have H5 := H4.seen sd (live _ _ _ _ _ 4)
  have e6 := get_has (sd := sd) (en := ⟨5, q + 5, 0, 0⟩) H5 (live _ _ _ _ _ 5)
  exact ⟨r3, t3, _, _, _, _, e3, hs3, e4, e5, e6, rfl⟩
end
end Go.Proofs.YthfkcbnabnmnjabGreatDoor
