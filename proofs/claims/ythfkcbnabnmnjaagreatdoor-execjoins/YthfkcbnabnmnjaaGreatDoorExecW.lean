/- What ExecWins, ExecAdds and ExecJoins ask, on a shard of lists. Nothing of the program is run here. Conditions: none. -/
import Derived.Test.YthfkcbnabnmnjaaGreatDoorG46Joined
namespace Go.Proofs.YthfkcbnabnmnjaaGreatDoor
set_option linter.unusedVariables false
open Go.RowKit

section
variable {n sd : Nat} {h : Hs} {k : ByteArray} {en : En} {i : Iv} {c : Cv}
theorem i64_dec (x : Int) (h : decide (-9223372036854775808 ≤ x ∧ x < 9223372036854775808) = true) : I64 x := ⟨(of_decide_eq_true h).1, (of_decide_eq_true h).2⟩
theorem live_0 (hf : en.flush = 0) (he : i.exp = 0) : liveI i en = true := by
  unfold liveI liveN
  rw [if_neg (by omega), if_pos (.inl hf)]
theorem adds_ex (g : GoodH n h) (sd : Nat) (k : ByteArray) (hk : k.size ≤ 250) (hb : h.slab.bud = 4000) (hen : en.ok) (hf : en.flush = 0) (x del : Int) (hx : U64 x) (hd : U64 del) :
    ∃ r1 t1 r2 t2 r3 t3 r4 t4, doH sd h (delC k 0) en = (r1, t1) ∧ doH sd t1 (makeC k x) en = (r2, t2) ∧ doH sd t2 (numC 10 k del) en = (r3, t3) ∧ doH sd t3 (numC 11 k del) en = (r4, t4) ∧ (r1.s = 5 ∨ r1.s = 1) ∧
      (r2.s = 7 → r2.num = x ∧ r3.s = 7 ∧ r3.num = (x + del) % 18446744073709551616 ∧ r4.s = 7 ∧ r4.num = if (x + del) % 18446744073709551616 < x then 0 else x) := by
  have hk' : k.size ≤ 140737488351232 := Nat.le_trans hk (by decide)
  have ok1 : (delC k 0).ok := ⟨i64_dec 8 rfl, hk', Nat.zero_le _, z64, zu64, zu64, zu64⟩
  have ok2 : (makeC k x).ok := ⟨i64_dec 10 rfl, hk', Nat.zero_le _, z64, zu64, zu64, hx⟩
  have ok3 : (numC 10 k del).ok := ⟨i64_dec 10 rfl, hk', Nat.zero_le _, z64, zu64, hd, zu64⟩
  obtain ⟨r1, t1, e1⟩ := pair_ex (doH sd h (delC k 0) en)
  obtain ⟨r3, t3, e3⟩ := pair_ex (doH sd (doH sd t1 (makeC k x) en).2 (numC 10 k del) en)
  have hdo := del_out (sd := sd) (k := k) (en := en) g
  have G1 := good_do g sd ok1 hen (.inr (by rw [hb]; decide))
  rw [e1] at hdo G1
  obtain ⟨g1, b1⟩ := G1
  obtain ⟨r2, t2, e2, z2⟩ := make_none (sd := sd) (en := en) g1 hdo.2 x
  have G2 := good_do g1 sd ok2 hen (.inr (by show t1.slab.bud ≤ 57600; rw [b1, hb]; decide))
  rw [e2] at G2 e3
  obtain ⟨g2, b2⟩ := G2
  have G3 := good_do g2 sd ok3 hen (.inr (by show t2.slab.bud ≤ 57600; rw [b2, b1, hb]; decide))
  rw [e3] at G3
  obtain ⟨g3, b3⟩ := G3
  obtain ⟨r4, t4, e4⟩ := pair_ex (doH sd t3 (numC 11 k del) en)
  refine ⟨r1, t1, r2, t2, r3, t3, r4, t4, e1, e2, e3, e4, hdo.1.imp (fun e => by rw [show r1 = _ from e]; rfl) (fun e => by rw [show r1 = _ from e]; rfl), fun hs => ?_⟩
  obtain ⟨zn, H2⟩ := z2 hs
  obtain ⟨m, rfl⟩ := Int.eq_ofNat_of_zero_le hx.1
  have hm : m < 18446744073709551616 := by have := hx.2; omega
  obtain ⟨r3', t3', e3', s3, n3, H3⟩ := reck_has (sd := sd) (en := en) g2 (.inl rfl) hm hd H2 rfl (live_0 hf rfl) hk (by rw [b2, b1, hb]; decide)
  obtain ⟨rfl, rfl⟩ : r3 = r3' ∧ t3 = t3' := by rw [e3] at e3'; cases e3'; exact ⟨rfl, rfl⟩
  have hr3 : reckN (numC 10 k del) m = ((m : Int) + del) % 18446744073709551616 := rfl
  rw [hr3] at n3 H3
  obtain ⟨y, hy⟩ : ∃ y : Nat, ((m : Int) + del) % 18446744073709551616 = y := Int.eq_ofNat_of_zero_le (by omega)
  rw [hy] at H3
  have hy' : y < 18446744073709551616 := by omega
  obtain ⟨r4', t4', e4', s4, n4, _⟩ := reck_has (sd := sd) (en := en) g3 (.inr rfl) hy' hd H3 rfl (live_0 hf rfl) hk (by rw [b3, b2, b1, hb]; decide)
  obtain ⟨rfl, rfl⟩ : r4 = r4' ∧ t4 = t4' := by rw [e4] at e4'; cases e4'; exact ⟨rfl, rfl⟩
  have hr4 : reckN (numC 11 k del) y = if (y : Int) < del then 0 else (y : Int) - del := rfl
  refine ⟨zn, s3, n3, s4, ?_⟩
  rw [n4, hr4, hy]
  have := hd.1
  have := hd.2
  split <;> split <;> omega
theorem wins_first (g : GoodH n h) (sd : Nat) (k : ByteArray) (hk : k.size ≤ 140737488351232) (hb : h.slab.bud = 4000) (hen : en.ok) (hf : en.flush = 0) :
    ∃ r1 t1 r2 t2, doH sd h (setC k [118] 0 0 0) en = (r1, t1) ∧ doH sd t1 (staleC k) en = (r2, t2) ∧ (r2.s = 1 ∨ r2.s = 5) ∧ (r1.s = 2 → r2.s = 5 ∧ ∃ i, HasI t2 k i ∧ i.exp = 0 ∧ i.st = true ∧ i.won = false) := by
  have ok1 : (setC k [118] 0 0 0).ok := ⟨i64_dec 3 rfl, hk, (by show 1 ≤ 140737488351232; decide), z64, zu64, zu64, zu64⟩
  obtain ⟨r1, t1, e1⟩ := pair_ex (doH sd h (setC k [118] 0 0 0) en)
  obtain ⟨r2, t2, e2⟩ := pair_ex (doH sd t1 (staleC k) en)
  have hst := stale_s sd t1 k en
  have g1 := (good_do g sd ok1 hen (.inr (by rw [hb]; decide))).1
  rw [e2] at hst
  refine ⟨r1, t1, r2, t2, e1, e2, hst.imp (fun e => by rw [show r2 = _ from e]; rfl) (fun e => by rw [show r2 = _ from e]; rfl), fun hs => ?_⟩
  have hd := set_done g (c := setC k [118] 0 0 0) (.inl rfl) (sd := sd) (en := en) (by rw [e1]; exact hs)
  rw [e1] at hd g1
  have H1 : HasI t1 k (newI k [118] 0 0 en) := hd.2.1
  obtain ⟨t, e, H2⟩ := stale_has (sd := sd) g1 H1 (live_0 hf rfl)
  rw [e2] at e
  cases e
  exact ⟨rfl, _, H2, rfl, rfl, rfl⟩
theorem wins_round (g : GoodH n h) (sd : Nat) (hf : en.flush = 0) (H : HasI h k i) (he : i.exp = 0) (hst : i.st = true) {q : Bool} (hq : i.won = q) :
    ∃ r t, doH sd h (metaC k) en = (r, t) ∧ r.s = 0 ∧ r.st = true ∧ r.won = !q ∧ r.lost = q ∧ ∃ i', HasI t k i' ∧ i'.exp = 0 ∧ i'.st = true ∧ i'.won = true := by
  obtain ⟨t, e, H2⟩ := meta_has (sd := sd) (en := en) g H (live_0 hf he)
  refine ⟨_, t, e, rfl, hst, ?_, hq, _, H2, he, hst, ?_⟩
  · show (!i.won && i.st) = !q
    rw [hq, hst]
    simp
  · show (i.won || i.st) = true
    rw [hst]
    simp
theorem wins_last (g : GoodH n h) (sd : Nat) (hk : k.size ≤ 250) (hb : h.slab.bud = 4000) (hen : en.ok) (hf : en.flush = 0) (H : HasI h k i) (he : i.exp = 0) :
    ∃ r1 t1 r2 t2, doH sd h (setC k [119] 0 0 0) en = (r1, t1) ∧ doH sd t1 (metaC k) en = (r2, t2) ∧ r1.s = 2 ∧ r2.st = false ∧ r2.won = false ∧ r2.lost = false := by
  have ok1 : (setC k [119] 0 0 0).ok := ⟨i64_dec 3 rfl, Nat.le_trans hk (by decide), (by show 1 ≤ 140737488351232; decide), z64, zu64, zu64, zu64⟩
  obtain ⟨r1, t1, e1⟩ := pair_ex (doH sd h (setC k [119] 0 0 0) en)
  have g1 := (good_do g sd ok1 hen (.inr (by rw [hb]; decide))).1
  have hs := set_over (sd := sd) (v := [119]) (fl := 0) (exp := 0) (cas := 0) (en := en) g H (live_0 hf he) (.inl rfl) (by show 50 + (k.size : Int) + ((1 : Nat) : Int) ≤ 2048; omega) (by rw [hb]; decide)
  have hd := set_done g (c := setC k [119] 0 0 0) (.inl rfl) (sd := sd) (en := en) hs
  rw [e1] at hd g1 hs
  have H1 : HasI t1 k (newI k [119] 0 0 en) := hd.2.1
  obtain ⟨t, e, _⟩ := meta_has (sd := sd) (en := en) g1 H1 (live_0 hf rfl)
  exact ⟨r1, t1, _, t, e1, e, hs, rfl, rfl, rfl⟩
theorem joins_ex (g : GoodH n h) (sd : Nat) (k : ByteArray) (hk : k.size ≤ 250) (hb : h.slab.bud = 4000) (a b c : List UInt8) (ha : a.length ≤ 300) (hbl : b.length ≤ 300) :
    ∃ r1 t1 r2 t2 r3 t3 r4 t4, doH sd h (setC k a 9 60 0) ⟨5, 0, 0, 0⟩ = (r1, t1) ∧ doH sd t1 (joinC 6 k b 1 2) ⟨5, 0, 0, 0⟩ = (r2, t2) ∧ doH sd t2 (joinC 7 k c 2 3) ⟨5, 0, 0, 0⟩ = (r3, t3) ∧ doH sd t3 (getC k) ⟨5, 0, 0, 0⟩ = (r4, t4) ∧
      (r1.s = 2 → r2.s = 2 → r3.s = 2 → r4.s = 0 ∧ r4.val = c ++ (a ++ b) ∧ r4.fl = 9 ∧ r4.ttl = 60) := by
  have hk' : k.size ≤ 140737488351232 := Nat.le_trans hk (by decide)
  have hen : (En.mk 5 0 0 0).ok := ⟨⟨by decide, by decide⟩, zu64, z64, zu64⟩
  have ok1 : (setC k a 9 60 0).ok := ⟨i64_dec 3 rfl, hk', Nat.le_trans ha (by decide), i64_dec 60 rfl, zu64, zu64, zu64⟩
  have ok2 : (joinC 6 k b 1 2).ok := ⟨i64_dec 6 rfl, hk', Nat.le_trans hbl (by decide), i64_dec 2 rfl, zu64, zu64, zu64⟩
  obtain ⟨r1, t1, e1⟩ := pair_ex (doH sd h (setC k a 9 60 0) ⟨5, 0, 0, 0⟩)
  obtain ⟨r2, t2, e2⟩ := pair_ex (doH sd t1 (joinC 6 k b 1 2) ⟨5, 0, 0, 0⟩)
  obtain ⟨r3, t3, e3⟩ := pair_ex (doH sd t2 (joinC 7 k c 2 3) ⟨5, 0, 0, 0⟩)
  obtain ⟨r4, t4, e4⟩ := pair_ex (doH sd t3 (getC k) ⟨5, 0, 0, 0⟩)
  have G1 := good_do g sd ok1 hen (.inr (by rw [hb]; decide))
  rw [e1] at G1
  obtain ⟨g1, b1⟩ := G1
  have G2 := good_do g1 sd ok2 hen (.inr (by show t1.slab.bud ≤ 57600; rw [b1, hb]; decide))
  rw [e2] at G2
  obtain ⟨g2, b2⟩ := G2
  refine ⟨r1, t1, r2, t2, r3, t3, r4, t4, e1, e2, e3, e4, fun s1 s2 s3 => ?_⟩
  have hd := set_done g (c := setC k a 9 60 0) (.inl rfl) (sd := sd) (en := ⟨5, 0, 0, 0⟩) (by rw [e1]; exact s1)
  rw [e1] at hd
  have hat : atW 60 5 = 65 := by
    unfold atW
    rw [if_neg (by decide), if_neg (by decide), if_pos (by decide)]
    unfold wrap64
    omega
  have H1 : HasI t1 k (newI k a 9 (atW 60 5) ⟨5, 0, 0, 0⟩) := hd.2.1
  rw [hat] at H1
  have lv : ∀ v, liveI (newI k v 9 65 ⟨5, 0, 0, 0⟩) ⟨5, 0, 0, 0⟩ = true := fun v => live_new rfl (.inr (by decide))
  have H2 := join_done (sd := sd) g1 (.inl rfl) H1 (lv _) (fl := 1) (exp := 2) (v := b) (by rw [e2]; exact s2)
  rw [e2] at H2
  have H2' : HasI t2 k (newI k (a ++ b) 9 65 ⟨5, 0, 0, 0⟩) := H2
  have H3 := join_done (sd := sd) g2 (.inr rfl) H2' (lv _) (fl := 2) (exp := 3) (v := c) (by rw [e3]; exact s3)
  rw [e3] at H3
  have H3' : HasI t3 k (newI k (c ++ (a ++ b)) 9 65 ⟨5, 0, 0, 0⟩) := H3
  have hg := get_has (sd := sd) H3' (lv _)
  rw [e4] at hg
  rw [show r4 = viewR _ _ from congrArg Prod.fst hg]
  refine ⟨rfl, rfl, rfl, ?_⟩
  show ttlN 65 5 = 60
  unfold ttlN
  rw [if_neg (by decide), if_neg (by decide)]
  unfold wrap64
  omega
end
end Go.Proofs.YthfkcbnabnmnjaaGreatDoor
