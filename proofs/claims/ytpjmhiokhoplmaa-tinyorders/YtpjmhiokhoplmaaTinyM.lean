/- Judges over lists of places and counters alone: nothing of the program is run here. Conditions: none. -/
import Derived.Test.YtpjmhiokhoplmaaBloomM
import Derived.Test.YtpjmhiokhoplmaaSketchM
namespace Go.Proofs.Ytpjmhiokhoplmaa

/-- A filter's places, a sketch's counters and age. -/
abbrev Js := List Nat × St
def sd1 (sd : Nat) : Nat := (sd + 1) % 18446744073709551616
def freshJ : Js := ([], fresh)
def hadJ (sd : Nat) (j : Js) (l : List UInt8) : Bool := hasS j.1 (pls sd l)
def touchJ (sd : Nat) (j : Js) (l : List UInt8) : Js :=
  if hadJ sd j l then (if halved j.2 then ([], addK (sd1 sd) j.2 l) else (addS j.1 (pls sd l), addK (sd1 sd) j.2 l)) else (addS j.1 (pls sd l), j.2)
def worthJ (sd : Nat) (j : Js) (l : List UInt8) : Nat := cnt j.2.1 (plcs (sd1 sd) l) + (if hadJ sd j l then 1 else 0)
structure GoodJ (j : Js) : Prop where
  set : Good j.1
  st : GoodK j.2
theorem good_freshJ : GoodJ freshJ := ⟨good_nil, good_fresh⟩
theorem good_touch {j : Js} (h : GoodJ j) (sd : Nat) (l : List UInt8) : GoodJ (touchJ sd j l) := by
  unfold touchJ
  split
  · split
    · exact ⟨good_nil, good_addK h.st _ l⟩
    · exact ⟨good_add h.set sd l, good_addK h.st _ l⟩
  · exact ⟨good_add h.set sd l, h.st⟩
theorem worth_le (sd : Nat) (j : Js) (l : List UInt8) : worthJ sd j l ≤ 16 := by
  unfold worthJ
  have := cnt_le j.2.1 (plcs (sd1 sd) l)
  split <;> omega
theorem worth_fresh (sd : Nat) (l : List UInt8) : worthJ sd freshJ l = 0 := by
  unfold worthJ freshJ
  rw [cnt_fresh]
  rfl
/-- A counter is not less behind an addition that halves nothing. -/
theorem cnt_more {st : St} (h : GoodK st) (sd sd' : Nat) (l l' : List UInt8) (hh : halved st = false) : cnt st.1 (plcs sd' l') ≤ cnt (addK sd st l).1 (plcs sd' l') :=
  le_cnt _ _ _ (cnt_le _ _) fun p hp => by
    have h1 := cnt_le_of st.1 (plcs sd' l') p hp
    have h2 := get_le h.le p
    rw [addK_get h, hh]
    simp only [Bool.false_eq_true, if_false]
    split <;> omega
/-- And not more behind one that halves all. -/
theorem cnt_less {st : St} (h : GoodK st) (sd sd' : Nat) (l l' : List UInt8) (hh : halved st = true) : cnt (addK sd st l).1 (plcs sd' l') ≤ cnt st.1 (plcs sd' l') :=
  le_cnt _ _ _ (cnt_le _ _) fun p hp => by
    have h1 := cnt_le_of (addK sd st l).1 (plcs sd' l') p hp
    rw [addK_get h, hh] at h1
    simp only [if_true] at h1
    split at h1 <;> omega
theorem used_more {j : Js} (h : GoodJ j) (sd : Nat) (l : List UInt8) (hh : (hadJ sd j l && halved j.2) = false) : worthJ sd j l ≤ worthJ sd (touchJ sd j l) l ∧ 1 ≤ worthJ sd (touchJ sd j l) l := by
  have hadd : hasS (addS j.1 (pls sd l)) (pls sd l) = true := has_add _ _
  cases e : hadJ sd j l with
  | true =>
    rw [e, Bool.true_and] at hh
    have hc := cnt_more h.st (sd1 sd) (sd1 sd) l l hh
    have ht : touchJ sd j l = (addS j.1 (pls sd l), addK (sd1 sd) j.2 l) := by
      unfold touchJ
      rw [if_pos e, hh]
      rfl
    unfold worthJ
    rw [ht, e]
    unfold hadJ
    rw [hadd]
    simp only [if_true]
    omega
  | false =>
    have ht : touchJ sd j l = (addS j.1 (pls sd l), j.2) := by
      unfold touchJ
      rw [e]
      rfl
    unfold worthJ
    rw [ht, e]
    unfold hadJ
    rw [hadd]
    simp only [if_true, Bool.false_eq_true, if_false]
    omega
theorem touch_half {j : Js} (sd : Nat) (l : List UInt8) (hh : (hadJ sd j l && halved j.2) = true) : touchJ sd j l = ([], addK (sd1 sd) j.2 l) ∧ halved j.2 = true := by
  rw [Bool.and_eq_true] at hh
  refine ⟨?_, hh.2⟩
  unfold touchJ
  rw [if_pos hh.1, if_pos hh.2]
theorem used_less {j : Js} (h : GoodJ j) (sd : Nat) (l m : List UInt8) (hh : (hadJ sd j l && halved j.2) = true) : worthJ sd (touchJ sd j l) l ≤ 8 ∧ worthJ sd (touchJ sd j l) m ≤ worthJ sd j m := by
  obtain ⟨ht, hv⟩ := touch_half sd l hh
  have h1 := half_cnt h.st (sd1 sd) (sd1 sd) l l hv
  have h2 := cnt_less h.st (sd1 sd) (sd1 sd) l m hv
  have e : ∀ k, hadJ sd ([], addK (sd1 sd) j.2 l) k = false := fun k => has_nil sd k
  unfold worthJ
  rw [ht, e, e]
  simp only [Bool.false_eq_true, if_false]
  omega
/-- One text, touched so often, and no other. -/
def AloneJ (sd : Nat) (j : Js) (l : List UInt8) (i : Nat) : Prop := (i = 0 ∧ j = freshJ) ∨ (1 ≤ i ∧ hadJ sd j l = true ∧ j.2.2 = i - 1 ∧ ∀ p ∈ plcs (sd1 sd) l, j.2.1.getD p 0 = min (i - 1) 15)
theorem aloneJ_worth {sd : Nat} {j : Js} {l : List UInt8} {i : Nat} (h : AloneJ sd j l i) : worthJ sd j l = min i 16 := by
  rcases h with ⟨rfl, rfl⟩ | ⟨h1, h2, _, h4⟩
  · rw [worth_fresh]
    rfl
  · unfold worthJ
    rw [h2, cnt_all _ _ _ (min (i - 1) 15) (Nat.min_le_right _ _) h4]
    simp only [if_true]
    omega
theorem aloneJ_step {sd : Nat} {j : Js} {l : List UInt8} {i : Nat} (hg : GoodJ j) (h : AloneJ sd j l i) (hi : i < 600) : AloneJ sd (touchJ sd j l) l (i + 1) := by
  rcases h with ⟨rfl, rfl⟩ | ⟨h1, h2, h3, h4⟩
  · have e : hadJ sd freshJ l = false := has_nil sd l
    have ht : touchJ sd freshJ l = (addS [] (pls sd l), fresh) := by
      unfold touchJ
      rw [e]
      rfl
    rw [ht]
    exact .inr ⟨Nat.le_refl _, has_add _ _, rfl, fun p _ => by rw [fresh_get]; rfl⟩
  · have hv : halved j.2 = false := by
      unfold halved
      exact decide_eq_false (by omega)
    have ht : touchJ sd j l = (addS j.1 (pls sd l), addK (sd1 sd) j.2 l) := by
      unfold touchJ
      rw [if_pos h2, hv]
      rfl
    rw [ht]
    refine .inr ⟨by omega, has_add _ _, ?_, fun p hp => ?_⟩
    · show (addK (sd1 sd) j.2 l).2 = _
      rw [addK_age, hv, h3]
      simp only [Bool.false_eq_true, if_false]
      omega
    · show (addK (sd1 sd) j.2 l).1.getD p 0 = _
      rw [addK_get hg.st, hv, if_pos hp, h4 p hp]
      simp only [Bool.false_eq_true, if_false]
      omega
/-- The chapter's example. -/
theorem worth_two (sd : Nat) (l : List UInt8) : worthJ sd (touchJ sd freshJ l) l = 1 ∧ worthJ sd (touchJ sd (touchJ sd freshJ l) l) l = 2 := by
  have a1 := aloneJ_step good_freshJ (.inl ⟨rfl, rfl⟩ : AloneJ sd freshJ l 0) (by decide)
  have a2 := aloneJ_step (good_touch good_freshJ sd l) a1 (by decide)
  exact ⟨aloneJ_worth a1, aloneJ_worth a2⟩
end Go.Proofs.Ytpjmhiokhoplmaa
