/- Where a text stands among pairs by rising texts: over lists alone. Nothing of the program is run here. Conditions: none. -/
import Derived.Test.YtncblaofgdcfmaaTableM
namespace Go.Proofs.Ytncblaofgdcfmaa

/-- Ahead of the place the texts are lesser ones, from there on they are not. -/
structure AtK (l : List Kv) (k : ByteArray) (A B : List Kv) : Prop where
  eq : l = A ++ B
  lt : ∀ p ∈ A, ltK p.1 k = true
  ge : ∀ p r, B = p :: r → ltK p.1 k = false
theorem at_ex (l : List Kv) (k : ByteArray) : ∃ A B, AtK l k A B := by
  induction l with
  | nil => exact ⟨[], [], rfl, fun p hp => (by cases hp), fun p r e => by cases e⟩
  | cons p l ih =>
    by_cases h : ltK p.1 k = true
    · obtain ⟨A, B, h1, h2, h3⟩ := ih
      refine ⟨p :: A, B, by rw [h1]; rfl, fun q hq => ?_, h3⟩
      rcases List.mem_cons.1 hq with rfl | hq
      · exact h
      · exact h2 q hq
    · refine ⟨[], p :: l, rfl, fun q hq => (by cases hq), fun q r e => ?_⟩
      cases e
      exact Bool.not_eq_true _ ▸ h
theorem put_front {k : ByteArray} {v : Int} {B : List Kv} : ∀ {A : List Kv}, (∀ p ∈ A, ltK p.1 k = true) → putL k v (A ++ B) = A ++ putL k v B
  | [], _ => rfl
  | (a, x) :: A, h => by
    have h1 : ltK a k = true := h (a, x) List.mem_cons_self
    have h2 : a ≠ k := ltK_ne h1
    have h3 : ltK k a = false := ltK_asymm h1
    have ih := put_front (k := k) (v := v) (B := B) (A := A) fun p hp => h p (List.mem_cons_of_mem _ hp)
    have e : putL k v ((a, x) :: (A ++ B)) = if a = k then (k, v) :: (A ++ B) else if ltK k a then (k, v) :: (a, x) :: (A ++ B) else (a, x) :: putL k v (A ++ B) := rfl
    show putL k v ((a, x) :: (A ++ B)) = (a, x) :: (A ++ putL k v B)
    rw [e, if_neg h2, h3, ih]
    rfl
theorem at_put_in {l A B : List Kv} {k : ByteArray} {x v : Int} (h : AtK l k A ((k, x) :: B)) : putL k v l = A ++ (k, v) :: B := by
  rw [h.eq, put_front h.lt]
  unfold putL
  rw [if_pos rfl]
theorem at_put_out {l A B : List Kv} {k : ByteArray} {v : Int} (h : AtK l k A B) (hn : ∀ p r, B = p :: r → p.1 ≠ k) : putL k v l = A ++ (k, v) :: B := by
  rw [h.eq, put_front h.lt]
  cases B with
  | nil => rfl
  | cons p B =>
    obtain ⟨a, x⟩ := p
    have h1 := h.ge _ _ rfl
    have h2 : a ≠ k := hn _ _ rfl
    have h3 : ltK k a = true := by
      cases hh : ltK k a with
      | true => rfl
      | false => exact (h2 (ltK_total h1 hh)).elim
    unfold putL
    rw [if_neg h2, if_pos h3]
theorem del_none {k : ByteArray} {A : List Kv} (h : ∀ p ∈ A, p.1 ≠ k) : delL k A = A := by
  unfold delL
  rw [List.filter_eq_self]
  intro p hp
  exact decide_eq_true (h p hp)
theorem at_apart {l A B : List Kv} {k : ByteArray} {x : Int} (hr : Rising l) (h : AtK l k A ((k, x) :: B)) : ∀ p ∈ B, p.1 ≠ k := by
  have hr' := hr
  rw [h.eq] at hr'
  unfold Rising at hr'
  rw [List.pairwise_append, List.pairwise_cons] at hr'
  exact fun p hp e => ltK_ne (hr'.2.1.1 p hp) e.symm
theorem at_del_in {l A B : List Kv} {k : ByteArray} {x : Int} (hr : Rising l) (h : AtK l k A ((k, x) :: B)) : delL k l = A ++ B := by
  have hB := at_apart hr h
  have e : delL k l = delL k A ++ delL k ((k, x) :: B) := by rw [h.eq]; unfold delL; rw [List.filter_append]
  have e2 : delL k ((k, x) :: B) = delL k B := by unfold delL; rw [List.filter_cons_of_neg (by simp)]
  rw [e, e2, del_none (fun p hp => ltK_ne (h.lt p hp)), del_none hB]
theorem at_get_in {l A B : List Kv} {k : ByteArray} {x : Int} (hr : Rising l) (h : AtK l k A ((k, x) :: B)) : getL k l = some x := (getL_some hr).2 (by rw [h.eq]; simp)
theorem at_none {l A B : List Kv} {k : ByteArray} (hr : Rising l) (h : AtK l k A B) (hn : ∀ p r, B = p :: r → p.1 ≠ k) : ∀ p ∈ l, p.1 ≠ k := by
  intro p hp e
  rw [h.eq] at hp
  rcases List.mem_append.1 hp with hp | hp
  · exact ltK_ne (h.lt p hp) e
  · cases B with
    | nil => cases hp
    | cons q B =>
      rcases List.mem_cons.1 hp with rfl | hp
      · exact hn _ _ rfl e
      · have hr' := hr
        rw [h.eq] at hr'
        unfold Rising at hr'
        rw [List.pairwise_append, List.pairwise_cons] at hr'
        have h1 := hr'.2.1.1 p hp
        have h2 := h.ge _ _ rfl
        rw [e] at h1
        rw [h1] at h2
        cases h2
theorem at_get_out {l A B : List Kv} {k : ByteArray} (hr : Rising l) (h : AtK l k A B) (hn : ∀ p r, B = p :: r → p.1 ≠ k) : getL k l = none := by
  unfold getL
  rw [List.find?_eq_none.2 fun p hp => by simp [at_none hr h hn p hp]]
  rfl
theorem at_del_out {l A B : List Kv} {k : ByteArray} (hr : Rising l) (h : AtK l k A B) (hn : ∀ p r, B = p :: r → p.1 ≠ k) : delL k l = l := del_none (at_none hr h hn)
/-- The text is there, or it is not. -/
theorem at_cases {l A B : List Kv} {k : ByteArray} (_h : AtK l k A B) : (∃ x B', B = (k, x) :: B') ∨ (∀ p r, B = p :: r → p.1 ≠ k) := by
  cases B with
  | nil => exact .inr fun p r e => by cases e
  | cons p B =>
    obtain ⟨a, x⟩ := p
    by_cases e : a = k
    · subst e
      exact .inl ⟨x, B, rfl⟩
    · exact .inr fun p r e' => by cases e'; exact e
end Go.Proofs.Ytncblaofgdcfmaa
