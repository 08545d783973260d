/- Lists of keys in two rows, over lists alone: nothing of the program is run here. Conditions: none. -/
import Derived.Test.YtedfhikmlicbgaaKit0
namespace Go.Proofs.Ytedfhikmlicbgaa

/-- How many may be protected; the keys on trial, the keys protected. -/
structure Sr where
  most : Int
  trial : List ByteArray
  safe : List ByteArray
def freshR (most : Int) : Sr := ⟨most, [], []⟩
def allR (st : Sr) : List ByteArray := st.trial ++ st.safe
def hasK (l : List ByteArray) (k : ByteArray) : Bool := l.any fun x => decide (x = k)
def without (l : List ByteArray) (k : ByteArray) : List ByteArray := l.filter fun x => decide (x ≠ k)
def addErr (st : Sr) (k : ByteArray) : Int := if hasK (allR st) k then 7 else 0
def addR (st : Sr) (k : ByteArray) : Sr := if hasK (allR st) k then st else ⟨st.most, st.trial ++ [k], st.safe⟩
def remErr (st : Sr) (k : ByteArray) : Int := if hasK (allR st) k then 0 else 6
def remR (st : Sr) (k : ByteArray) : Sr := ⟨st.most, without st.trial k, without st.safe k⟩
/-- If those protected are too many, the first of them goes back on trial. -/
def spill (st : Sr) : Sr := if st.most < st.safe.length then (match st.safe with | [] => st | x :: l => ⟨st.most, st.trial ++ [x], l⟩) else st
def hitR (st : Sr) (k : ByteArray) : Sr := if hasK (allR st) k then spill ⟨st.most, without st.trial k, without st.safe k ++ [k]⟩ else st
/-- The first one that is not this one. -/
def vicR (st : Sr) (k : ByteArray) : Option ByteArray := (allR st).find? fun x => decide (x ≠ k)
structure GoodR (st : Sr) : Prop where
  nodup : (allR st).Nodup
  most : (st.safe.length : Int) ≤ max st.most 0

theorem hasK_iff {l : List ByteArray} {k : ByteArray} : hasK l k = true ↔ k ∈ l := by simp [hasK]
theorem hasK_not {l : List ByteArray} {k : ByteArray} : hasK l k = false ↔ ¬ k ∈ l := by rw [← hasK_iff]; simp
theorem mem_without {l : List ByteArray} {k x : ByteArray} : x ∈ without l k ↔ x ∈ l ∧ x ≠ k := by simp [without]
theorem without_app (l m : List ByteArray) (k : ByteArray) : without (l ++ m) k = without l k ++ without m k := by simp [without]
theorem without_not {l : List ByteArray} {k : ByteArray} (h : ¬ k ∈ l) : without l k = l := by
  unfold without
  rw [List.filter_eq_self]
  intro x hx
  exact decide_eq_true fun e => h (e ▸ hx)
theorem without_sub (l : List ByteArray) (k : ByteArray) : (without l k).Sublist l := List.filter_sublist
theorem without_le (l : List ByteArray) (k : ByteArray) : (without l k).length ≤ l.length := (without_sub l k).length_le
theorem without_lt {l : List ByteArray} {k : ByteArray} (h : k ∈ l) : (without l k).length < l.length := by
  unfold without
  exact List.length_filter_lt_length_iff_exists.2 ⟨k, h, by simp⟩
theorem without_len {l : List ByteArray} {k : ByteArray} (hn : l.Nodup) (h : k ∈ l) : (without l k).length + 1 = l.length := by
  induction l with
  | nil => cases h
  | cons x l ih =>
    rw [List.nodup_cons] at hn
    by_cases e : x = k
    · subst e
      have : without (x :: l) x = without l x := by simp [without]
      rw [this, without_not hn.1, List.length_cons]
    · have : without (x :: l) k = x :: without l k := by simp [without, e]
      have hk : k ∈ l := (List.mem_cons.1 h).resolve_left fun h => e h.symm
      have := ih hn.2 hk
      simp_all
theorem all_rem (st : Sr) (k : ByteArray) : allR (remR st k) = without (allR st) k := (without_app _ _ _).symm
theorem rem_not {st : Sr} {k : ByteArray} (h : ¬ k ∈ allR st) : remR st k = st := by
  unfold remR
  rw [without_not fun h' => h (List.mem_append_left _ h'), without_not fun h' => h (List.mem_append_right _ h')]
theorem good_fresh (most : Int) : GoodR (freshR most) := ⟨List.nodup_nil, by simp [freshR]; omega⟩
theorem good_add {st : Sr} (h : GoodR st) (k : ByteArray) : GoodR (addR st k) := by
  unfold addR
  split
  · exact h
  · rename_i hk
    rw [hasK_iff] at hk
    refine ⟨?_, h.most⟩
    show (st.trial ++ [k] ++ st.safe).Nodup
    have hp : (st.trial ++ [k] ++ st.safe).Perm (k :: allR st) := by
      rw [List.append_assoc]
      exact List.perm_middle
    exact hp.nodup_iff.2 (List.nodup_cons.2 ⟨hk, h.nodup⟩)
theorem good_rem {st : Sr} (h : GoodR st) (k : ByteArray) : GoodR (remR st k) := by
  refine ⟨?_, ?_⟩
  · rw [all_rem]
    exact (without_sub _ k).nodup h.nodup
  · have := without_le st.safe k
    have h2 := h.most
    show ((without st.safe k).length : Int) ≤ _
    show _ ≤ max st.most 0
    omega
theorem all_spill (st : Sr) : allR (spill st) = allR st := by
  unfold spill
  split
  · split
    · rfl
    · rename_i x l e
      unfold allR
      rw [e]
      simp
  · rfl
theorem all_hit {st : Sr} {k : ByteArray} (h : k ∈ allR st) : allR (hitR st k) = without (allR st) k ++ [k] := by
  unfold hitR
  rw [if_pos (hasK_iff.2 h), all_spill]
  show without st.trial k ++ (without st.safe k ++ [k]) = _
  rw [← List.append_assoc, ← without_app]
  rfl
theorem good_hit {st : Sr} (h : GoodR st) (k : ByteArray) : GoodR (hitR st k) := by
  by_cases hk : k ∈ allR st
  · refine ⟨?_, ?_⟩
    · rw [all_hit hk, List.nodup_append]
      refine ⟨(without_sub _ k).nodup h.nodup, by simp, ?_⟩
      intro a ha b hb e
      rw [List.mem_singleton] at hb
      exact (mem_without.1 ha).2 (e.trans hb)
    · have := without_le st.safe k
      have h2 := h.most
      unfold hitR
      rw [if_pos (hasK_iff.2 hk)]
      unfold spill
      split
      · rename_i hlt
        split
        · rename_i e
          simp at e
        · rename_i x l e
          have hl := congrArg List.length e
          simp at hl hlt ⊢
          omega
      · rename_i hlt
        simp at hlt ⊢
        omega
  · unfold hitR
    rw [if_neg (fun h => hk (hasK_iff.1 h))]
    exact h
theorem len_add (st : Sr) (k : ByteArray) : (allR (addR st k)).length ≤ (allR st).length + 1 := by
  unfold addR
  split
  · omega
  · simp [allR]
    omega
theorem len_rem (st : Sr) (k : ByteArray) : (allR (remR st k)).length ≤ (allR st).length := by
  rw [all_rem]
  exact without_le _ _
theorem len_hit {st : Sr} (h : GoodR st) (k : ByteArray) : (allR (hitR st k)).length = (allR st).length := by
  by_cases hk : k ∈ allR st
  · rw [all_hit hk, List.length_append]
    exact without_len h.nodup hk
  · unfold hitR
    rw [if_neg (fun h => hk (hasK_iff.1 h))]
theorem most_add (st : Sr) (k : ByteArray) : (addR st k).most = st.most := by unfold addR; split <;> rfl
theorem most_rem (st : Sr) (k : ByteArray) : (remR st k).most = st.most := rfl
theorem most_spill (st : Sr) : (spill st).most = st.most := by
  unfold spill
  split
  · split <;> rfl
  · rfl
theorem most_hit (st : Sr) (k : ByteArray) : (hitR st k).most = st.most := by
  unfold hitR
  split
  · rw [most_spill]
  · rfl
theorem add_in {st : Sr} {k : ByteArray} (h : k ∈ allR st) : addErr st k = 7 ∧ addR st k = st := by
  unfold addErr addR
  rw [if_pos (hasK_iff.2 h), if_pos (hasK_iff.2 h)]
  exact ⟨rfl, rfl⟩
theorem add_out {st : Sr} {k : ByteArray} (h : ¬ k ∈ allR st) : addErr st k = 0 ∧ addR st k = ⟨st.most, st.trial ++ [k], st.safe⟩ := by
  unfold addErr addR
  rw [if_neg (fun h' => h (hasK_iff.1 h')), if_neg (fun h' => h (hasK_iff.1 h'))]
  exact ⟨rfl, rfl⟩
theorem rem_in {st : Sr} {k : ByteArray} (h : k ∈ allR st) : remErr st k = 0 := by
  unfold remErr
  rw [if_pos (hasK_iff.2 h)]
theorem rem_out {st : Sr} {k : ByteArray} (h : ¬ k ∈ allR st) : remErr st k = 6 ∧ remR st k = st := by
  unfold remErr
  rw [if_neg (fun h' => h (hasK_iff.1 h'))]
  exact ⟨rfl, rem_not h⟩
theorem hit_out {st : Sr} {k : ByteArray} (h : ¬ k ∈ allR st) : hitR st k = st := by
  unfold hitR
  rw [if_neg (fun h' => h (hasK_iff.1 h'))]
end Go.Proofs.Ytedfhikmlicbgaa
