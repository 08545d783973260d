/- Places that are set, as bits of eight words of 64: over numbers and lists alone. Conditions: none. -/
import Derived.Test.YtpjmhiokhoplmaaBloomM
namespace Go.Proofs.Ytpjmhiokhoplmaa

/-- These eight words have just the bits of these places. -/
structure Bits8 (ws : List Nat) (S : List Nat) : Prop where
  len : ws.length = 8
  lt : ∀ x ∈ ws, x < 18446744073709551616
  bit : ∀ p, p < 512 → (ws.getD (p / 64) 0).testBit (p % 64) = decide (p ∈ S)

theorem bits_nil : Bits8 [0, 0, 0, 0, 0, 0, 0, 0] [] := by
  refine ⟨rfl, fun x hx => ?_, fun p hp => ?_⟩
  · simp at hx
    omega
  · have h : p / 64 < 8 := by omega
    have : [0, 0, 0, 0, 0, 0, 0, 0].getD (p / 64) 0 = 0 := by
      match p / 64, h with
      | 0, _ | 1, _ | 2, _ | 3, _ | 4, _ | 5, _ | 6, _ | 7, _ => rfl
    rw [this, Nat.zero_testBit]
    rfl
theorem two_pow_lt {k : Nat} (h : k < 64) : 2 ^ k < 18446744073709551616 := by
  have : 2 ^ k < 2 ^ 64 := Nat.pow_lt_pow_right (by decide) h
  omega
theorem or_lt {a b : Nat} (ha : a < 18446744073709551616) (hb : b < 18446744073709551616) : a ||| b < 18446744073709551616 := by
  have h : a ||| b < 2 ^ 64 := Nat.or_lt_two_pow (by omega) (by omega)
  omega
/-- The bit of one place more. -/
theorem bits_ins {ws S : List Nat} (h : Bits8 ws S) (p : Nat) (hp : p < 512) : Bits8 (ws.set (p / 64) (ws.getD (p / 64) 0 ||| 2 ^ (p % 64))) (insS S p) := by
  have hl : p / 64 < ws.length := by rw [h.len]; omega
  have hm : ws.getD (p / 64) 0 ∈ ws := by
    simp only [List.getD, List.getElem?_eq_getElem hl, Option.getD_some]
    exact List.getElem_mem hl
  refine ⟨by rw [List.length_set]; exact h.len, fun x hx => ?_, fun q hq => ?_⟩
  · rcases List.mem_or_eq_of_mem_set hx with h1 | h1
    · exact h.lt x h1
    · rw [h1]
      exact or_lt (h.lt _ hm) (two_pow_lt (Nat.mod_lt _ (by decide)))
  · have hins : decide (q ∈ insS S p) = (decide (q ∈ S) || decide (q = p)) := by
      rw [← Bool.decide_or]
      exact decide_eq_decide.2 (mem_ins S p q)
    rw [hins]
    by_cases e : q / 64 = p / 64
    · have hg : (ws.set (p / 64) (ws.getD (p / 64) 0 ||| 2 ^ (p % 64))).getD (q / 64) 0 = ws.getD (p / 64) 0 ||| 2 ^ (p % 64) := by
        rw [e]
        simp [List.getD, List.getElem?_set_self hl]
      rw [hg, Nat.testBit_or, ← e, h.bit q hq, Nat.testBit_two_pow]
      congr 1
      exact decide_eq_decide.2 (by omega)
    · have hg : (ws.set (p / 64) (ws.getD (p / 64) 0 ||| 2 ^ (p % 64))).getD (q / 64) 0 = ws.getD (q / 64) 0 := by
        simp only [List.getD, List.getElem?_set_ne (fun x : p / 64 = q / 64 => e x.symm)]
      rw [hg, h.bit q hq, decide_eq_false (show ¬ q = p by intro x; subst x; exact e rfl), Bool.or_false]
/-- Is the bit set? -/
theorem bits_and {ws S : List Nat} (h : Bits8 ws S) (p : Nat) (hp : p < 512) : (ws.getD (p / 64) 0 &&& 2 ^ (p % 64) = 0) ↔ ¬ p ∈ S := by
  have hb := h.bit p hp
  obtain ⟨x, hx⟩ : ∃ x, ws.getD (p / 64) 0 = x := ⟨_, rfl⟩
  obtain ⟨k, hk⟩ : ∃ k, p % 64 = k := ⟨_, rfl⟩
  rw [hx, hk] at hb
  rw [hx, hk]
  constructor
  · intro h0 hm
    have h1 : (x &&& 2 ^ k).testBit k = false := by rw [h0, Nat.zero_testBit]
    rw [Nat.testBit_and, hb, decide_eq_true hm, Nat.testBit_two_pow_self] at h1
    cases h1
  · intro hm
    apply Nat.eq_of_testBit_eq
    intro i
    rw [Nat.testBit_and, Nat.testBit_two_pow, Nat.zero_testBit]
    by_cases e : k = i
    · subst e
      rw [hb, decide_eq_false hm, Bool.false_and]
    · rw [decide_eq_false e, Bool.and_false]
/-- How many bits of a word are set. -/
def pop (n : Nat) : Nat := (List.range 64).countP fun k => n.testBit k
def popAll (ws : List Nat) : Nat := (ws.map pop).sum
theorem count_range (S : List Nat) : ∀ n : Nat, S.Nodup → (∀ p ∈ S, p < n) → (List.range n).countP (fun p => decide (p ∈ S)) = S.length := by
  intro n hn hl
  have h1 : (List.range n).countP (fun p => decide (p ∈ S)) = ((List.range n).filter fun p => decide (p ∈ S)).length := List.countP_eq_length_filter
  rw [h1]
  apply len_same (List.Pairwise.filter _ List.nodup_range) hn
  intro p
  rw [List.mem_filter, List.mem_range]
  constructor
  · rintro ⟨_, h⟩
    exact of_decide_eq_true h
  · intro h
    exact ⟨hl p h, decide_eq_true h⟩
theorem range_64 (f : Nat → Bool) : ∀ m : Nat, (List.range (m * 64)).countP f = ((List.range m).map fun i => (List.range 64).countP fun k => f (i * 64 + k)).sum
  | 0 => rfl
  | m + 1 => by
    rw [Nat.succ_mul, List.range_add, List.countP_append, range_64 f m, List.range_succ (n := m), List.map_append, List.sum_append, List.countP_map]
    simp [Function.comp_def]
theorem bits_words {ws S : List Nat} (h : Bits8 ws S) : ws.map pop = (List.range 8).map fun i => (List.range 64).countP fun k => decide (i * 64 + k ∈ S) := by
  apply List.ext_getElem
  · simp [h.len]
  · intro i h2 h3
    have hi : i < 8 := by rw [List.length_map, List.length_range] at h3; exact h3
    have hi' : i < ws.length := by rw [h.len]; exact hi
    rw [List.getElem_map, List.getElem_map, List.getElem_range]
    unfold pop
    apply List.countP_congr
    intro k hk
    have hk' : k < 64 := List.mem_range.1 hk
    have hb := h.bit (i * 64 + k) (by omega)
    rw [show (i * 64 + k) / 64 = i by omega, show (i * 64 + k) % 64 = k by omega] at hb
    simp only [List.getD, List.getElem?_eq_getElem hi', Option.getD_some] at hb
    rw [hb]
/-- The words' bits are as many as the places. -/
theorem bits_pop {ws S : List Nat} (h : Bits8 ws S) (hS : Good S) : popAll ws = S.length := by
  rw [← count_range S 512 hS.1 hS.2]
  have e : 512 = 8 * 64 := by decide
  rw [e, range_64]
  have key : ws.map pop = (List.range 8).map fun i => (List.range 64).countP fun k => decide (i * 64 + k ∈ S) := by
    exact bits_words h
  unfold popAll
  rw [key]
end Go.Proofs.Ytpjmhiokhoplmaa
