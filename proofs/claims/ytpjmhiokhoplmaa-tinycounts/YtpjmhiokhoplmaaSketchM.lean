/- Sketches over lists of counters alone: nothing of the program is run here. Conditions: none. -/
import Derived.Test.YtpjmhiokhoplmaaHashM
namespace Go.Proofs.Ytpjmhiokhoplmaa

/-- The place of a text in a row, among all counters, row behind row. -/
def plc (sd : Nat) (l : List UInt8) (i : Nat) : Nat := i * 64 + ofN ((sd + i) % 18446744073709551616) l % 64
def plcs (sd : Nat) (l : List UInt8) : List Nat := [plc sd l 0, plc sd l 1, plc sd l 2, plc sd l 3]
/-- One more, up to 15. -/
def inc (C : List Nat) (p : Nat) : List Nat := if C.getD p 0 < 15 then C.set p (C.getD p 0 + 1) else C
def incs (C ps : List Nat) : List Nat := ps.foldl inc C
/-- Counters and age. -/
abbrev St := List Nat × Nat
def fresh : St := (List.replicate 256 0, 0)
def halved (st : St) : Bool := decide (640 ≤ st.2 + 1)
def addK (sd : Nat) (st : St) (l : List UInt8) : St := if halved st then ((incs st.1 (plcs sd l)).map (· / 2), 320) else (incs st.1 (plcs sd l), st.2 + 1)
/-- The least of some counters. -/
def cnt (C ps : List Nat) : Nat := ps.foldl (fun n p => min n (C.getD p 0)) 15
structure GoodK (st : St) : Prop where
  len : st.1.length = 256
  le : ∀ c ∈ st.1, c ≤ 15
  age : st.2 < 640

theorem plc_row (sd : Nat) (l : List UInt8) (i : Nat) : i * 64 ≤ plc sd l i ∧ plc sd l i < i * 64 + 64 := by
  unfold plc
  have := Nat.mod_lt (ofN ((sd + i) % 18446744073709551616) l) (show 0 < 64 by decide)
  omega
theorem plcs_lt (sd : Nat) (l : List UInt8) : ∀ p ∈ plcs sd l, p < 256 := by
  have h0 := plc_row sd l 0
  have h1 := plc_row sd l 1
  have h2 := plc_row sd l 2
  have h3 := plc_row sd l 3
  intro p hp
  simp only [plcs, List.mem_cons, List.not_mem_nil, or_false] at hp
  omega
theorem plcs_nodup (sd : Nat) (l : List UInt8) : (plcs sd l).Nodup := by
  have h0 := plc_row sd l 0
  have h1 := plc_row sd l 1
  have h2 := plc_row sd l 2
  have h3 := plc_row sd l 3
  simp only [plcs, List.nodup_cons, List.mem_cons, List.not_mem_nil, or_false, List.nodup_nil, not_false_eq_true, and_true]
  omega
theorem inc_len (C : List Nat) (p : Nat) : (inc C p).length = C.length := by
  unfold inc
  split
  · rw [List.length_set]
  · rfl
theorem incs_len : ∀ (ps C : List Nat), (incs C ps).length = C.length
  | [], _ => rfl
  | p :: ps, C => (incs_len ps (inc C p)).trans (inc_len C p)
theorem inc_get (C : List Nat) (p q : Nat) (hp : p < C.length) (hC : ∀ c ∈ C, c ≤ 15) : (inc C p).getD q 0 = if p = q then min (C.getD q 0 + 1) 15 else C.getD q 0 := by
  have hle : C.getD p 0 ≤ 15 := by
    simp only [List.getD, List.getElem?_eq_getElem hp, Option.getD_some]
    exact hC _ (List.getElem_mem hp)
  unfold inc
  by_cases e : p = q
  · subst e
    rw [if_pos rfl]
    split
    · simp only [List.getD, List.getElem?_set_self hp, Option.getD_some]
      simp only [List.getD] at *
      omega
    · omega
  · rw [if_neg e]
    split
    · simp only [List.getD, List.getElem?_set_ne e]
    · rfl
theorem inc_le (C : List Nat) (p : Nat) (hC : ∀ c ∈ C, c ≤ 15) : ∀ c ∈ inc C p, c ≤ 15 := by
  intro c hc
  unfold inc at hc
  split at hc
  · rcases List.mem_or_eq_of_mem_set hc with h | h
    · exact hC c h
    · omega
  · exact hC c hc
theorem incs_le : ∀ (ps C : List Nat), (∀ c ∈ C, c ≤ 15) → ∀ c ∈ incs C ps, c ≤ 15
  | [], _, h => h
  | p :: ps, C, h => incs_le ps (inc C p) (inc_le C p h)
theorem incs_get : ∀ (ps C : List Nat) (q : Nat), ps.Nodup → (∀ p ∈ ps, p < C.length) → (∀ c ∈ C, c ≤ 15) → (incs C ps).getD q 0 = if q ∈ ps then min (C.getD q 0 + 1) 15 else C.getD q 0
  | [], C, q, _, _, _ => by simp [incs]
  | p :: ps, C, q, hn, hl, hC => by
    rw [List.nodup_cons] at hn
    have hp := hl p List.mem_cons_self
    have ih := incs_get ps (inc C p) q hn.2 (fun x hx => by rw [inc_len]; exact hl x (List.mem_cons_of_mem _ hx)) (inc_le C p hC)
    show (incs (inc C p) ps).getD q 0 = _
    rw [ih, inc_get C p q hp hC]
    by_cases e : p = q
    · subst e
      rw [if_neg hn.1, if_pos rfl, if_pos List.mem_cons_self]
    · rw [if_neg e]
      by_cases hq : q ∈ ps
      · rw [if_pos hq, if_pos (List.mem_cons_of_mem _ hq)]
      · rw [if_neg hq, if_neg (fun h => (List.mem_cons.1 h).elim (fun x => e x.symm) hq)]
theorem get_le {C : List Nat} (h : ∀ c ∈ C, c ≤ 15) (q : Nat) : C.getD q 0 ≤ 15 := by
  by_cases hq : q < C.length
  · simp only [List.getD, List.getElem?_eq_getElem hq, Option.getD_some]
    exact h _ (List.getElem_mem hq)
  · simp [List.getD, List.getElem?_eq_none (Nat.le_of_not_lt hq)]
theorem half_get (C : List Nat) (q : Nat) : (C.map (· / 2)).getD q 0 = C.getD q 0 / 2 := by
  simp only [List.getD, List.getElem?_map]
  cases C[q]? <;> rfl
theorem good_fresh : GoodK fresh := ⟨List.length_replicate, fun c hc => by rw [List.eq_of_mem_replicate hc]; omega, by decide⟩
theorem fresh_get (q : Nat) : fresh.1.getD q 0 = 0 := by
  simp only [fresh, List.getD, List.getElem?_replicate]
  split <;> rfl
theorem good_addK {st : St} (h : GoodK st) (sd : Nat) (l : List UInt8) : GoodK (addK sd st l) := by
  unfold addK
  by_cases hh : halved st = true
  · rw [if_pos hh]
    refine ⟨by rw [List.length_map, incs_len]; exact h.len, fun c hc => ?_, show 320 < 640 by decide⟩
    obtain ⟨x, hx, rfl⟩ := List.mem_map.1 hc
    have := incs_le _ _ h.le x hx
    omega
  · rw [if_neg hh]
    refine ⟨by rw [incs_len]; exact h.len, incs_le _ _ h.le, ?_⟩
    simp only [halved, decide_eq_true_eq] at hh
    show st.2 + 1 < 640
    omega
/-- What one addition does to a counter. -/
theorem addK_get {st : St} (h : GoodK st) (sd : Nat) (l : List UInt8) (q : Nat) :
    (addK sd st l).1.getD q 0 = if halved st then (if q ∈ plcs sd l then min (st.1.getD q 0 + 1) 15 else st.1.getD q 0) / 2 else (if q ∈ plcs sd l then min (st.1.getD q 0 + 1) 15 else st.1.getD q 0) := by
  have hi := incs_get (plcs sd l) st.1 q (plcs_nodup sd l) (fun p hp => by rw [h.len]; exact plcs_lt sd l p hp) h.le
  unfold addK
  by_cases hh : halved st = true
  · rw [if_pos hh, if_pos hh]
    show ((incs st.1 (plcs sd l)).map (· / 2)).getD q 0 = _
    rw [half_get, hi]
  · rw [if_neg hh, if_neg hh]
    exact hi
theorem addK_age (sd : Nat) (st : St) (l : List UInt8) : (addK sd st l).2 = if halved st then 320 else st.2 + 1 := by
  unfold addK
  split <;> rfl

theorem cnt_fold : ∀ (ps C : List Nat) (n : Nat), ps.foldl (fun n p => min n (C.getD p 0)) n ≤ n ∧ (∀ p ∈ ps, ps.foldl (fun n p => min n (C.getD p 0)) n ≤ C.getD p 0) ∧ ∀ m, m ≤ n → (∀ p ∈ ps, m ≤ C.getD p 0) → m ≤ ps.foldl (fun n p => min n (C.getD p 0)) n
  | [], _, n => ⟨Nat.le_refl _, (fun p hp => (List.not_mem_nil hp).elim), fun m hm _ => hm⟩
  | x :: ps, C, n => by
    obtain ⟨h1, h2, h3⟩ := cnt_fold ps C (min n (C.getD x 0))
    refine ⟨Nat.le_trans h1 (Nat.min_le_left _ _), fun p hp => ?_, fun m hm hall => h3 m (Nat.le_min.2 ⟨hm, hall x List.mem_cons_self⟩) fun p hp => hall p (List.mem_cons_of_mem _ hp)⟩
    rcases List.mem_cons.1 hp with rfl | hp
    · exact Nat.le_trans h1 (Nat.min_le_right _ _)
    · exact h2 p hp
theorem cnt_le (C ps : List Nat) : cnt C ps ≤ 15 := (cnt_fold ps C 15).1
theorem cnt_le_of (C ps : List Nat) (p : Nat) (hp : p ∈ ps) : cnt C ps ≤ C.getD p 0 := (cnt_fold ps C 15).2.1 p hp
theorem le_cnt (C ps : List Nat) (m : Nat) (hm : m ≤ 15) (h : ∀ p ∈ ps, m ≤ C.getD p 0) : m ≤ cnt C ps := (cnt_fold ps C 15).2.2 m hm h
theorem cnt_all (C : List Nat) (sd : Nat) (l : List UInt8) (v : Nat) (hv : v ≤ 15) (h : ∀ p ∈ plcs sd l, C.getD p 0 = v) : cnt C (plcs sd l) = v :=
  Nat.le_antisymm (by rw [← h (plc sd l 0) (by simp [plcs])]; exact cnt_le_of _ _ _ (by simp [plcs])) (le_cnt _ _ _ hv fun p hp => by rw [h p hp]; exact Nat.le_refl _)
theorem cnt_fresh (sd : Nat) (l : List UInt8) : cnt fresh.1 (plcs sd l) = 0 := cnt_all _ _ _ 0 (by decide) fun p _ => fresh_get p
/-- The chapter's example. -/
theorem cnt_two (sd : Nat) (l : List UInt8) : cnt (addK sd (addK sd fresh l) l).1 (plcs sd l) = 2 ∧ (addK sd (addK sd fresh l) l).2 = 2 ∧ halved fresh = false ∧ halved (addK sd fresh l) = false := by
  have a0 : halved fresh = false := rfl
  have e1 : (addK sd fresh l).2 = 1 := by rw [addK_age, a0]; rfl
  have a1 : halved (addK sd fresh l) = false := by unfold halved; rw [e1]; rfl
  refine ⟨cnt_all _ _ _ 2 (by decide) fun p hp => ?_, ?_, a0, a1⟩
  · rw [addK_get (good_addK good_fresh sd l), a1, addK_get good_fresh, a0, if_pos hp, if_pos hp, fresh_get]
    rfl
  · rw [addK_age, a1, e1]
    rfl

/-- What was added so often has as much, or 15. -/
def Least (st : St) (ps : List Nat) (n : Nat) : Prop := ∀ p ∈ ps, min n 15 ≤ st.1.getD p 0
theorem least_fresh (ps : List Nat) : Least fresh ps 0 := fun p _ => by rw [fresh_get]; exact Nat.min_le_left _ _
theorem least_same {st : St} (h : GoodK st) (sd : Nat) (l : List UInt8) (n : Nat) (hh : halved st = false) (hl : Least st (plcs sd l) n) : Least (addK sd st l) (plcs sd l) (n + 1) := fun p hp => by
  have := hl p hp
  rw [addK_get h, hh, if_pos hp]
  simp only [Bool.false_eq_true, if_false]
  omega
theorem least_more {st : St} (h : GoodK st) (sd : Nat) (l : List UInt8) (ps : List Nat) (n : Nat) (hh : halved st = false) (hl : Least st ps n) : Least (addK sd st l) ps n := fun p hp => by
  have h1 := hl p hp
  have h2 := get_le h.le p
  rw [addK_get h, hh]
  simp only [Bool.false_eq_true, if_false]
  split <;> omega
theorem least_cnt {st : St} {ps : List Nat} {n : Nat} (h : Least st ps n) : min n 15 ≤ cnt st.1 ps := le_cnt _ _ _ (Nat.min_le_right _ _) h
theorem half_cnt {st : St} (h : GoodK st) (sd sd' : Nat) (l l' : List UInt8) (hh : halved st = true) : cnt (addK sd st l).1 (plcs sd' l') ≤ 7 := by
  have h1 := cnt_le_of (addK sd st l).1 (plcs sd' l') (plc sd' l' 0) (by simp [plcs])
  have h2 := get_le h.le (plc sd' l' 0)
  rw [addK_get h, hh] at h1
  simp only [if_true] at h1
  split at h1 <;> omega

/-- No counter is more than how many were added. -/
def Most (st : St) (n : Nat) : Prop := st.2 = n ∧ ∀ q, st.1.getD q 0 ≤ n
theorem most_fresh : Most fresh 0 := ⟨rfl, fun q => by rw [fresh_get]; exact Nat.le_refl _⟩
theorem most_step {st : St} (h : GoodK st) (sd : Nat) (l : List UInt8) (n : Nat) (hh : halved st = false) (hm : Most st n) : Most (addK sd st l) (n + 1) := by
  refine ⟨by rw [addK_age, hh, hm.1]; rfl, fun q => ?_⟩
  have := hm.2 q
  rw [addK_get h, hh]
  simp only [Bool.false_eq_true, if_false]
  split <;> omega
theorem most_cnt {st : St} {n : Nat} (h : Most st n) (sd : Nat) (l : List UInt8) : cnt st.1 (plcs sd l) ≤ n := Nat.le_trans (cnt_le_of _ _ (plc sd l 0) (by simp [plcs])) (h.2 _)

/-- One text, added again and again. -/
def Alone (st : St) (ps : List Nat) (i : Nat) : Prop := st.2 = (if i < 640 then i else 320 + (i - 640) % 320) ∧ ∀ p ∈ ps, st.1.getD p 0 = (if i < 640 then min i 15 else min (7 + (i - 640) % 320) 15)
theorem alone_fresh (ps : List Nat) : Alone fresh ps 0 := ⟨rfl, fun p _ => by rw [fresh_get]; rfl⟩
theorem alone_halved {st : St} {ps : List Nat} {i : Nat} (h : Alone st ps i) : halved st = decide (640 ≤ i + 1 ∧ (i + 1 - 640) % 320 = 0) := by
  unfold halved
  rw [h.1]
  apply decide_eq_decide.2
  split <;> omega
theorem alone_step {st : St} (hg : GoodK st) (sd : Nat) (l : List UInt8) (i : Nat) (h : Alone st (plcs sd l) i) : Alone (addK sd st l) (plcs sd l) (i + 1) ∧ (halved st = true → cnt (addK sd st l).1 (plcs sd l) = 7) := by
  have hh := alone_halved h
  cases e : halved st with
  | true =>
    rw [e] at hh
    have h1 := of_decide_eq_true hh.symm
    have each : ∀ p ∈ plcs sd l, (addK sd st l).1.getD p 0 = 7 := fun p hp => by
      rw [addK_get hg, e, if_pos hp, h.2 p hp]
      simp only [if_true]
      split <;> omega
    refine ⟨⟨?_, fun p hp => ?_⟩, fun _ => cnt_all _ _ _ 7 (by decide) each⟩
    · rw [addK_age, e]
      simp only [if_true]
      rw [if_neg (by omega), h1.2]
    · rw [each p hp, if_neg (by omega), h1.2]
      rfl
  | false =>
    rw [e] at hh
    have h1 := of_decide_eq_false hh.symm
    refine ⟨⟨?_, fun p hp => ?_⟩, fun h => by cases h⟩
    · rw [addK_age, e, h.1]
      simp only [Bool.false_eq_true, if_false]
      split <;> split <;> omega
    · rw [addK_get hg, e, if_pos hp, h.2 p hp]
      simp only [Bool.false_eq_true, if_false]
      split <;> split <;> omega
end Go.Proofs.Ytpjmhiokhoplmaa
