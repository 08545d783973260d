/- Places that are set, as bits of eight words of 64: over numbers and lists alone. Conditions: none. The contracts of package bloom, over a word 'Fil' that says which places a filter in memory has set. Nothing of the program is walked here. Conditions: none. How many bits of a word of 64 are set, reckoned by masks and sums as math/bits does it: over numbers alone. Conditions: the word is below 2 to the 64th. -/
import Derived.Test.YtkfeafmpaodagaaGreatDoorG03Joined
import Derived.Test.YtkfeafmpaodagaaGreatDoorG00Joined
import Derived.Laws.BitsAllLaws
namespace Go.Proofs.YtkfeafmpaodagaaGreatDoor

/-- These eight words have just the bits of these places. -/
structure Bits8 (ws : List Nat) (S : List Nat) : Prop where
  len : ws.length = 8
  lt : ∀ x ∈ ws, x < 18446744073709551616
  bit : ∀ p, p < 512 → (ws.getD (p / 64) 0).testBit (p % 64) = decide (p ∈ S)

theorem bits_nil : Bits8 [0, 0, 0, 0, 0, 0, 0, 0] [] := by
  refine ⟨rfl, fun x hx => ?_, fun p hp => ?_⟩
  · simp at hx
    omega
  · have h : p / 64 < 8 := by omega
    have : [0, 0, 0, 0, 0, 0, 0, 0].getD (p / 64) 0 = 0 := by
      match p / 64, h with
      | 0, _ | 1, _ | 2, _ | 3, _ | 4, _ | 5, _ | 6, _ | 7, _ => rfl
    rw [this, Nat.zero_testBit]
    rfl
theorem two_pow_lt {k : Nat} (h : k < 64) : 2 ^ k < 18446744073709551616 := by
  have : 2 ^ k < 2 ^ 64 := Nat.pow_lt_pow_right (by decide) h
  omega
theorem or_lt {a b : Nat} (ha : a < 18446744073709551616) (hb : b < 18446744073709551616) : a ||| b < 18446744073709551616 := by
  have h : a ||| b < 2 ^ 64 := Nat.or_lt_two_pow (by omega) (by omega)
  omega
/-- The bit of one place more. -/
theorem bits_ins {ws S : List Nat} (h : Bits8 ws S) (p : Nat) (hp : p < 512) : Bits8 (ws.set (p / 64) (ws.getD (p / 64) 0 ||| 2 ^ (p % 64))) (insS S p) := by
  have hl : p / 64 < ws.length := by rw [h.len]; omega
  have hm : ws.getD (p / 64) 0 ∈ ws := by
    simp only [List.getD, List.getElem?_eq_getElem hl, Option.getD_some]
    exact List.getElem_mem hl
  refine ⟨by rw [List.length_set]; exact h.len, fun x hx => ?_, fun q hq => ?_⟩
  · rcases List.mem_or_eq_of_mem_set hx with h1 | h1
    · exact h.lt x h1
    · rw [h1]
      exact or_lt (h.lt _ hm) (two_pow_lt (Nat.mod_lt _ (by decide)))
  · have hins : decide (q ∈ insS S p) = (decide (q ∈ S) || decide (q = p)) := by
      rw [← Bool.decide_or]
      exact decide_eq_decide.2 (mem_ins S p q)
    rw [hins]
    by_cases e : q / 64 = p / 64
    · have hg : (ws.set (p / 64) (ws.getD (p / 64) 0 ||| 2 ^ (p % 64))).getD (q / 64) 0 = ws.getD (p / 64) 0 ||| 2 ^ (p % 64) := by
        rw [e]
        simp [List.getD, List.getElem?_set_self hl]
      rw [hg, Nat.testBit_or, ← e, h.bit q hq, Nat.testBit_two_pow]
      congr 1
      exact decide_eq_decide.2 (by omega)
    · have hg : (ws.set (p / 64) (ws.getD (p / 64) 0 ||| 2 ^ (p % 64))).getD (q / 64) 0 = ws.getD (q / 64) 0 := by
        simp only [List.getD, List.getElem?_set_ne (fun x : p / 64 = q / 64 => e x.symm)]
      rw [hg, h.bit q hq, decide_eq_false (show ¬ q = p by intro x; subst x; exact e rfl), Bool.or_false]
/-- Is the bit set? -/
theorem bits_and {ws S : List Nat} (h : Bits8 ws S) (p : Nat) (hp : p < 512) : (ws.getD (p / 64) 0 &&& 2 ^ (p % 64) = 0) ↔ ¬ p ∈ S := by
  have hb := h.bit p hp
  obtain ⟨x, hx⟩ : ∃ x, ws.getD (p / 64) 0 = x := ⟨_, rfl⟩
  obtain ⟨k, hk⟩ : ∃ k, p % 64 = k := ⟨_, rfl⟩
  rw [hx, hk] at hb
  rw [hx, hk]
  constructor
  · intro h0 hm
    have h1 : (x &&& 2 ^ k).testBit k = false := by rw [h0, Nat.zero_testBit]
    rw [Nat.testBit_and, hb, decide_eq_true hm, Nat.testBit_two_pow_self] at h1
    cases h1
  · intro hm
    apply Nat.eq_of_testBit_eq
    intro i
    rw [Nat.testBit_and, Nat.testBit_two_pow, Nat.zero_testBit]
    by_cases e : k = i
    · subst e
      rw [hb, decide_eq_false hm, Bool.false_and]
    · rw [decide_eq_false e, Bool.and_false]
/-- How many bits of a word are set. -/
def pop (n : Nat) : Nat := (List.range 64).countP fun k => n.testBit k
def popAll (ws : List Nat) : Nat := (ws.map pop).sum
theorem count_range (S : List Nat) : ∀ n : Nat, S.Nodup → (∀ p ∈ S, p < n) → (List.range n).countP (fun p => decide (p ∈ S)) = S.length := by
  intro n hn hl
  have h1 : (List.range n).countP (fun p => decide (p ∈ S)) = ((List.range n).filter fun p => decide (p ∈ S)).length := List.countP_eq_length_filter
  rw [h1]
  apply len_same (List.Pairwise.filter _ List.nodup_range) hn
  intro p
  rw [List.mem_filter, List.mem_range]
  constructor
  · rintro ⟨_, h⟩
    exact of_decide_eq_true h
  · intro h
    exact ⟨hl p h, decide_eq_true h⟩
theorem range_64 (f : Nat → Bool) : ∀ m : Nat, (List.range (m * 64)).countP f = ((List.range m).map fun i => (List.range 64).countP fun k => f (i * 64 + k)).sum
  | 0 => rfl
  | m + 1 => by
    rw [Nat.succ_mul, List.range_add, List.countP_append, range_64 f m, List.range_succ (n := m), List.map_append, List.sum_append, List.countP_map]
    simp [Function.comp_def]
theorem bits_words {ws S : List Nat} (h : Bits8 ws S) : ws.map pop = (List.range 8).map fun i => (List.range 64).countP fun k => decide (i * 64 + k ∈ S) := by
  apply List.ext_getElem
  · simp [h.len]
  · intro i h2 h3
    have hi : i < 8 := by rw [List.length_map, List.length_range] at h3; exact h3
    have hi' : i < ws.length := by rw [h.len]; exact hi
    rw [List.getElem_map, List.getElem_map, List.getElem_range]
    unfold pop
    apply List.countP_congr
    intro k hk
    have hk' : k < 64 := List.mem_range.1 hk
    have hb := h.bit (i * 64 + k) (by omega)
    rw [show (i * 64 + k) / 64 = i by omega, show (i * 64 + k) % 64 = k by omega] at hb
    simp only [List.getD, List.getElem?_eq_getElem hi', Option.getD_some] at hb
    rw [hb]
/-- The words' bits are as many as the places. -/
theorem bits_pop {ws S : List Nat} (h : Bits8 ws S) (hS : Good S) : popAll ws = S.length := by
  rw [← count_range S 512 hS.1 hS.2]
  have e : 512 = 8 * 64 := by decide
  rw [e, range_64]
  have key : ws.map pop = (List.range 8).map fun i => (List.range 64).countP fun k => decide (i * 64 + k ∈ S) := by
    exact bits_words h
  unfold popAll
  rw [key]
end Go.Proofs.YtkfeafmpaodagaaGreatDoor

namespace Go.Proofs.YtkfeafmpaodagaaGreatDoor
open Go.RowKit

/-- The contracts of package bloom. -/
structure BloomLib (Fil : World → Nat → Nat → List Nat → Prop) : Prop where
  lt : ∀ {w b sd S}, Fil w b sd S → b < w.heap.size
  good : ∀ {w b sd S}, Fil w b sd S → Good S ∧ sd < 18446744073709551616
  keep : ∀ {w w' b sd S}, Fil w b sd S → w'.heap[b]? = w.heap[b]? → Fil w' b sd S
  new : ∀ (sd : Nat), sd < 18446744073709551616 → ∀ w : World, Calls Tryz.prog 49 #[.int .u64 sd] w fun e w' => ∃ b, e = .returned (.pointer (some ⟨b, 0, none⟩)) ∧ w.heap.size ≤ b ∧ Fil w' b sd [] ∧ w.grownBy w' none
  add : ∀ {w b sd S}, Fil w b sd S → ∀ s : ByteArray, s.size ≤ 140737488351232 → Calls Tryz.prog 90 #[.pointer (some ⟨b, 0, none⟩), .string s] w fun e w' => e = .returned (.bool (hasS S (pls sd s.data.toList))) ∧ Fil w' b sd (addS S (pls sd s.data.toList)) ∧ w.grownBy w' (some b)
  has : ∀ {w b sd S}, Fil w b sd S → ∀ s : ByteArray, s.size ≤ 140737488351232 → Calls Tryz.prog 125 #[.pointer (some ⟨b, 0, none⟩), .string s] w fun e w' => e = .returned (.bool (hasS S (pls sd s.data.toList))) ∧ Fil w' b sd S ∧ w.grownBy w' none
  clear : ∀ {w b sd S}, Fil w b sd S → Calls Tryz.prog 92 #[.pointer (some ⟨b, 0, none⟩)] w fun e w' => (∃ v, e = .returned v) ∧ Fil w' b sd [] ∧ w.grownBy w' (some b)
variable {Fil : World → Nat → Nat → List Nat → Prop}
theorem BloomLib.kept (L : BloomLib Fil) {w w' : World} {b sd : Nat} {S : List Nat} {row : Option Nat} (h : Fil w b sd S) (hg : w.grownBy w' row) (hr : row ≠ some b) : Fil w' b sd S := L.keep h (hg.block b (L.lt h) (fun e => hr e.symm))
end Go.Proofs.YtkfeafmpaodagaaGreatDoor

namespace Go.Proofs.YtkfeafmpaodagaaGreatDoor

/-- The number of which these are the bytes, the lowest first. -/
def val : List Nat → Nat
  | [] => 0
  | b :: bs => 256 * val bs + b
/-- A mask of k bytes c. -/
def mask (c : Nat) : Nat → Nat
  | 0 => 0
  | k + 1 => 256 * mask c k + c
/-- The pairs' sums: what stands s places higher, and what stands here, under a mask. -/
def pairs (s c k x : Nat) : Nat := (x / 2 ^ s &&& mask c k) + (x &&& mask c k)
def pairB (s c b : Nat) : Nat := (b / 2 ^ s &&& c) + (b &&& c)

theorem bit_byte (v b : Nat) (hb : b < 256) (j : Nat) : (256 * v + b).testBit j = if j < 8 then b.testBit j else v.testBit (j - 8) := by
  have h := Nat.testBit_two_pow_mul_add v (b := b) (i := 8) (by simpa using hb) j
  simpa using h
theorem and_bytes (v b m c : Nat) (hb : b < 256) (hc : c < 256) : (256 * v + b) &&& (256 * m + c) = 256 * (v &&& m) + (b &&& c) := by
  have hbc : b &&& c < 256 := Nat.lt_of_le_of_lt Nat.and_le_left hb
  apply Nat.eq_of_testBit_eq
  intro j
  rw [Nat.testBit_and, bit_byte v b hb, bit_byte m c hc, bit_byte _ _ hbc]
  by_cases h : j < 8
  · rw [if_pos h, if_pos h, if_pos h, Nat.testBit_and]
  · rw [if_neg h, if_neg h, if_neg h, Nat.testBit_and]
/-- Shifted by less than eight places, under a mask whose bytes have none of the places that come from the next byte. -/
theorem shr_bytes (s : Nat) (v b m c : Nat) (hs : s ≤ 8) (hb : b < 256) (hc : c < 2 ^ (8 - s)) : (256 * v + b) / 2 ^ s &&& (256 * m + c) = 256 * (v / 2 ^ s &&& m) + (b / 2 ^ s &&& c) := by
  have hc8 : c < 256 := Nat.lt_of_lt_of_le hc (by
    have := Nat.pow_le_pow_right (show 0 < 2 by decide) (show 8 - s ≤ 8 by omega)
    simpa using this)
  have hbc : b / 2 ^ s &&& c < 256 := Nat.lt_of_le_of_lt Nat.and_le_right hc8
  apply Nat.eq_of_testBit_eq
  intro j
  rw [Nat.testBit_and, bit_byte m c hc8, bit_byte _ _ hbc, Nat.testBit_div_two_pow, bit_byte v b hb]
  by_cases h : j < 8
  · rw [if_pos h, if_pos h, Nat.testBit_and, Nat.testBit_div_two_pow]
    by_cases h2 : j + s < 8
    · rw [if_pos h2]
    · have : c.testBit j = false := Nat.testBit_lt_two_pow (Nat.lt_of_lt_of_le hc (Nat.pow_le_pow_right (by decide) (by omega)))
      rw [this, Bool.and_false, Bool.and_false]
  · rw [if_neg h, if_neg h, Nat.testBit_and, Nat.testBit_div_two_pow, if_neg (by omega)]
    rw [show j + s - 8 = j - 8 + s by omega]
theorem pairs_val (s c : Nat) (hs : s ≤ 8) (hc : c < 2 ^ (8 - s)) : ∀ bs : List Nat, (∀ b ∈ bs, b < 256) → pairs s c bs.length (val bs) = val (bs.map (pairB s c))
  | [], _ => by simp [pairs, val, mask]
  | b :: bs, h => by
    have hb : b < 256 := h b List.mem_cons_self
    have ih := pairs_val s c hs hc bs fun x hx => h x (List.mem_cons_of_mem _ hx)
    have hc8 : c < 256 := Nat.lt_of_lt_of_le hc (by
      have := Nat.pow_le_pow_right (show 0 < 2 by decide) (show 8 - s ≤ 8 by omega)
      simpa using this)
    show pairs s c (bs.length + 1) (256 * val bs + b) = 256 * val (bs.map (pairB s c)) + pairB s c b
    rw [← ih]
    unfold pairs pairB
    rw [show mask c (bs.length + 1) = 256 * mask c bs.length + c from rfl, shr_bytes s _ b _ c hs hb hc, and_bytes _ b _ c hb hc8]
    omega
/-- The last sums: both halves of a byte, neither above 4. -/
def halves (k x : Nat) : Nat := (x / 16 + x) &&& mask 15 k
theorem halves_val : ∀ bs : List Nat, (∀ b ∈ bs, b / 16 ≤ 4 ∧ b % 16 ≤ 4) → halves bs.length (val bs) = val (bs.map fun b => b / 16 + b % 16) ∧ val bs % 16 ≤ 4
  | [], _ => by simp [halves, val, mask]
  | b :: bs, h => by
    obtain ⟨hu, hv⟩ := h b List.mem_cons_self
    obtain ⟨ih, hn⟩ := halves_val bs fun x hx => h x (List.mem_cons_of_mem _ hx)
    refine ⟨?_, ?_⟩
    · show halves (bs.length + 1) (256 * val bs + b) = 256 * val (bs.map fun b => b / 16 + b % 16) + (b / 16 + b % 16)
      rw [← ih]
      unfold halves
      obtain ⟨v, ev⟩ : ∃ v, v = val bs := ⟨_, rfl⟩
      rw [← ev] at hn ⊢
      have e : (256 * v + b) / 16 + (256 * v + b) = 256 * (v / 16 + v) + (16 * (v % 16 + b / 16) + (b / 16 + b % 16)) := by omega
      rw [e, show mask 15 (bs.length + 1) = 256 * mask 15 bs.length + 15 from rfl, and_bytes _ _ _ 15 (by omega) (by decide), nat_mask4]
      omega
    · show (256 * val bs + b) % 16 ≤ 4
      omega
/-- How many bits of a byte are set. -/
def popB (b : Nat) : Nat := (List.range 8).countP fun k => b.testBit k
theorem byte_all : ∀ b, b < 256 → pairB 1 85 b < 256 ∧ pairB 2 51 (pairB 1 85 b) < 256 ∧ pairB 2 51 (pairB 1 85 b) / 16 ≤ 4 ∧ pairB 2 51 (pairB 1 85 b) % 16 ≤ 4 ∧ pairB 2 51 (pairB 1 85 b) / 16 + pairB 2 51 (pairB 1 85 b) % 16 = popB b ∧ popB b ≤ 8 := by decide +kernel
theorem pop_val : ∀ bs : List Nat, (∀ b ∈ bs, b < 256) → (List.range (8 * bs.length)).countP (fun k => (val bs).testBit k) = (bs.map popB).sum
  | [], _ => rfl
  | b :: bs, h => by
    have hb : b < 256 := h b List.mem_cons_self
    have ih := pop_val bs fun x hx => h x (List.mem_cons_of_mem _ hx)
    rw [show 8 * (b :: bs).length = 8 + 8 * bs.length by rw [List.length_cons]; omega, List.range_add, List.countP_append, List.countP_map, List.map_cons, List.sum_cons, ← ih]
    unfold popB
    congr 1
    · apply List.countP_congr
      intro k hk
      show (256 * val bs + b).testBit k = true ↔ _
      rw [bit_byte _ b hb, if_pos (List.mem_range.1 hk)]
    · apply List.countP_congr
      intro k _
      show (256 * val bs + b).testBit (8 + k) = true ↔ _
      rw [bit_byte _ b hb, if_neg (by omega), show 8 + k - 8 = k by omega]
/-- What math/bits reckons. -/
def ones (x : Nat) : Nat :=
  let y := halves 8 (pairs 2 51 8 (pairs 1 85 8 x))
  let y1 := y + y / 256
  let y2 := y1 + y1 / 65536
  (y2 + y2 / 4294967296) % 128
theorem sums_val (c0 c1 c2 c3 c4 c5 c6 c7 : Nat) (h0 : c0 ≤ 8) (h1 : c1 ≤ 8) (h2 : c2 ≤ 8) (h3 : c3 ≤ 8) (h4 : c4 ≤ 8) (h5 : c5 ≤ 8) (h6 : c6 ≤ 8) (h7 : c7 ≤ 8) (y y1 y2 : Nat) (ey : y = val [c0, c1, c2, c3, c4, c5, c6, c7]) (e1 : y1 = y + y / 256) (e2 : y2 = y1 + y1 / 65536) :
    (y2 + y2 / 4294967296) % 128 = c0 + (c1 + (c2 + (c3 + (c4 + (c5 + (c6 + c7)))))) ∧ y2 + y2 / 4294967296 < 18446744073709551616 := by
  simp only [val] at ey
  have f1 : y1 = 256 * (256 * (256 * (256 * (256 * (256 * (256 * c7 + (c6 + c7)) + (c5 + c6)) + (c4 + c5)) + (c3 + c4)) + (c2 + c3)) + (c1 + c2)) + (c0 + c1) := by omega
  have f2 : y2 = 256 * (256 * (256 * (256 * (256 * (256 * (256 * c7 + (c6 + c7)) + (c5 + c6 + c7)) + (c4 + c5 + (c6 + c7))) + (c3 + c4 + (c5 + c6))) + (c2 + c3 + (c4 + c5))) + (c1 + c2 + (c3 + c4))) + (c0 + c1 + (c2 + c3)) := by omega
  clear e1 e2 ey f1
  have f3 : y2 / 4294967296 = 256 * (256 * (256 * c7 + (c6 + c7)) + (c5 + c6 + c7)) + (c4 + c5 + (c6 + c7)) := by omega
  omega
theorem bytes_val (n : Nat) (h : n < 18446744073709551616) : ∃ b0 b1 b2 b3 b4 b5 b6 b7 : Nat, n = val [b0, b1, b2, b3, b4, b5, b6, b7] ∧ ∀ b ∈ [b0, b1, b2, b3, b4, b5, b6, b7], b < 256 := by
  refine ⟨n % 256, n / 256 % 256, n / 65536 % 256, n / 16777216 % 256, n / 4294967296 % 256, n / 1099511627776 % 256, n / 281474976710656 % 256, n / 72057594037927936, ?_, ?_⟩
  · simp only [val]
    omega
  · intro b hb
    simp only [List.mem_cons, List.not_mem_nil, or_false] at hb
    omega
theorem ones_pop (n : Nat) (h : n < 18446744073709551616) : ones n = pop n := by
  obtain ⟨b0, b1, b2, b3, b4, b5, b6, b7, rfl, hb⟩ := bytes_val n h
  obtain ⟨bs, eb⟩ : ∃ bs, bs = [b0, b1, b2, b3, b4, b5, b6, b7] := ⟨_, rfl⟩
  have hp : pop (val bs) = (bs.map popB).sum := by
    have := pop_val bs (by rw [eb]; exact hb)
    rw [← this]
    unfold pop
    rw [eb]
    rfl
  have q1 : pairs 1 85 8 (val bs) = val (bs.map (pairB 1 85)) := by
    have := pairs_val 1 85 (by decide) (by decide) bs (by rw [eb]; exact hb)
    rwa [show bs.length = 8 by rw [eb]; rfl] at this
  have q2 : pairs 2 51 8 (val (bs.map (pairB 1 85))) = val ((bs.map (pairB 1 85)).map (pairB 2 51)) := by
    have := pairs_val 2 51 (by decide) (by decide) (bs.map (pairB 1 85)) (by
      intro b hm
      obtain ⟨x, hx, rfl⟩ := List.mem_map.1 hm
      exact (byte_all x (hb x (by rw [← eb]; exact hx))).1)
    rwa [show (bs.map (pairB 1 85)).length = 8 by rw [List.length_map, eb]; rfl] at this
  have q3 : halves 8 (val ((bs.map (pairB 1 85)).map (pairB 2 51))) = val (bs.map popB) := by
    have := (halves_val ((bs.map (pairB 1 85)).map (pairB 2 51)) (by
      intro b hm
      rw [List.map_map] at hm
      obtain ⟨x, hx, rfl⟩ := List.mem_map.1 hm
      have k := byte_all x (hb x (by rw [← eb]; exact hx))
      exact ⟨k.2.2.1, k.2.2.2.1⟩)).1
    rw [show ((bs.map (pairB 1 85)).map (pairB 2 51)).length = 8 by rw [List.length_map, List.length_map, eb]; rfl] at this
    rw [this, List.map_map, List.map_map]
    congr 1
    apply List.map_congr_left
    intro x hx
    exact (byte_all x (hb x (by rw [← eb]; exact hx))).2.2.2.2.1
  have l8 : ∀ b ∈ [b0, b1, b2, b3, b4, b5, b6, b7], popB b ≤ 8 := fun b hm => (byte_all b (hb b hm)).2.2.2.2.2
  rw [← eb, hp]
  unfold ones
  rw [q1, q2, q3, eb]
  have := (sums_val (popB b0) (popB b1) (popB b2) (popB b3) (popB b4) (popB b5) (popB b6) (popB b7) (l8 b0 (by simp)) (l8 b1 (by simp)) (l8 b2 (by simp)) (l8 b3 (by simp)) (l8 b4 (by simp)) (l8 b5 (by simp)) (l8 b6 (by simp)) (l8 b7 (by simp)) _ _ _ rfl rfl rfl).1
  simpa using this
end Go.Proofs.YtkfeafmpaodagaaGreatDoor
