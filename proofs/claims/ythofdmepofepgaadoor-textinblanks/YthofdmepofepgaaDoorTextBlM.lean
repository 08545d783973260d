/- Blanks more between the words of a line: the words stay. Conditions: none. -/
import Derived.Test.YthofdmepofepgaaDoorG38Joined
namespace Go.Proofs.YthofdmepofepgaaDoor
set_option linter.unusedVariables false

/-- A line with so many blanks more ahead of each blank. -/
def wideL (m : Nat) : List UInt8 → List UInt8
  | [] => []
  | c :: l => if c = 32 then List.replicate m 32 ++ 32 :: wideL m l else c :: wideL m l
theorem wd_blanks (r : List UInt8) : ∀ m : Nat, wd [] (List.replicate m 32 ++ r) = wd [] r
  | 0 => rfl
  | m + 1 => by
    rw [List.replicate_succ, List.cons_append]
    simp only [wd, if_true]
    exact wd_blanks r m
theorem wd_gap (cur r : List UInt8) : ∀ m : Nat, wd cur (List.replicate m 32 ++ 32 :: r) = wd cur (32 :: r)
  | 0 => rfl
  | m + 1 => by
    have e : wd [] (List.replicate m 32 ++ 32 :: r) = wd [] r := by rw [wd_blanks]; simp only [wd, if_true]
    rw [List.replicate_succ, List.cons_append]
    simp only [wd, if_true]
    rw [e]
theorem wd_end (cur : List UInt8) (m : Nat) : wd cur (List.replicate m 32) = wd cur [] := by
  cases m with
  | zero => rfl
  | succ m =>
    rw [List.replicate_succ]
    have e : wd [] (List.replicate m 32) = [] := by
      have := wd_blanks [] m
      rw [List.append_nil] at this
      rw [this]
      simp [wd]
    simp only [wd, if_true]
    rw [e]
theorem wd_wide (m k : Nat) : ∀ (l cur : List UInt8), wd cur (wideL m l ++ List.replicate k 32) = wd cur l
  | [], cur => wd_end cur k
  | c :: l, cur => by
    unfold wideL
    by_cases hc : c = 32
    · subst hc
      rw [if_pos rfl, List.append_assoc, List.cons_append, wd_gap]
      simp only [wd, if_true]
      rw [wd_wide m k l []]
    · rw [if_neg hc, List.cons_append]
      simp only [wd, if_neg hc]
      exact wd_wide m k l (cur ++ [c])
theorem words_wide (m k : Nat) (l : List UInt8) : wordsL ((List.replicate m 32 ++ wideL m l) ++ List.replicate k 32) = wordsL l := by
  have h : ∀ x, wordsL x = wd [] x := fun x => by unfold wordsL restL; simp
  rw [h, h, List.append_assoc, wd_blanks, wd_wide]
theorem wideL_len (m : Nat) : ∀ l : List UInt8, (wideL m l).length ≤ (m + 1) * l.length
  | [] => by simp [wideL]
  | c :: l => by
    have := wideL_len m l
    unfold wideL
    rw [List.length_cons, Nat.mul_add]
    split
    · rw [List.length_append, List.length_replicate, List.length_cons]; omega
    · rw [List.length_cons]; omega
theorem wideL_no (m : Nat) {d : UInt8} (hd : d ≠ 32) : ∀ l : List UInt8, d ∉ l → d ∉ wideL m l
  | [], _ => by simp [wideL]
  | c :: l, h => by
    have h1 : d ≠ c := fun e => h (by simp [e])
    have h2 := wideL_no m hd l (fun e => h (by simp [e]))
    unfold wideL
    split
    · intro hm
      rcases List.mem_append.1 hm with h3 | h3
      · exact hd (List.eq_of_mem_replicate h3)
      · rcases List.mem_cons.1 h3 with h4 | h4
        · exact hd h4
        · exact h2 h4
    · intro hm
      rcases List.mem_cons.1 hm with h4 | h4
      · exact h1 h4
      · exact h2 h4
theorem wideL_snoc (m : Nat) (c : UInt8) : ∀ l : List UInt8, wideL m (l ++ [c]) = wideL m l ++ (if c = 32 then List.replicate m 32 ++ [32] else [c])
  | [] => by simp [wideL]
  | x :: l => by
    have := wideL_snoc m c l
    rw [List.cons_append]
    unfold wideL
    rw [this]
    split <;> simp
/-- The two ways of a line with blanks more. -/
theorem blanks_ways {l : List UInt8} {m : Nat} (h : (10 : UInt8) ∉ l) (hl : l.length ≤ 300) (hm : m ≤ 3) (N : Nat) (hN : (List.replicate m 32 ++ wideL m l : List UInt8).length = N) :
    (parseN (l ++ [13, 10]) = moreS ∧ parseN (((List.replicate m 32 ++ wideL m l) ++ List.replicate m 32) ++ [13, 10]) = moreS) ∨
    ((parseN (l ++ [13, 10])).e ≠ 3 ∧ (parseN (((List.replicate m 32 ++ wideL m l) ++ List.replicate m 32) ++ [13, 10])).e ≠ 3 ∧ (parseN (((List.replicate m 32 ++ wideL m l) ++ List.replicate m 32) ++ [13, 10])).used = (N : Int) + m + 2 ∧ { parseN (((List.replicate m 32 ++ wideL m l) ++ List.replicate m 32) ++ [13, 10]) with used := (l.length : Int) + 2 } = parseN (l ++ [13, 10]) ∧ Few1 (parseN (l ++ [13, 10])).req) := by
  have hw := wideL_len m l
  have hw2 : (m + 1) * l.length ≤ 4 * 300 := Nat.mul_le_mul (by omega) hl
  have hz : ((List.replicate m 32 ++ wideL m l) ++ List.replicate m 32 : List UInt8).length = N + m := by rw [List.length_append, hN, List.length_replicate]
  have hN2 : N ≤ 1203 := by rw [← hN, List.length_append, List.length_replicate]; omega
  have h2 : (10 : UInt8) ∉ ((List.replicate m 32 ++ wideL m l) ++ List.replicate m 32 : List UInt8) := by
    intro hm
    rcases List.mem_append.1 hm with h3 | h3
    · rcases List.mem_append.1 h3 with h4 | h4
      · exact absurd (List.eq_of_mem_replicate h4) (by decide)
      · exact wideL_no m (by decide) l h h4
    · exact absurd (List.eq_of_mem_replicate h3) (by decide)
  rw [parse_crlf [] h (by omega), parse_crlf [] h2 (by omega), words_wide, hz]
  rcases lineS_nil (wordsL l) with hm | ⟨s, hs, hx⟩
  · exact .inl ⟨hm _, hm _⟩
  · have hf := line_few (wordsL l) [] ((l.length + 2 : Nat) : Int) (by have := wordsL_len l; omega)
    rw [hx] at hf
    rw [hx, hx]
    exact .inr ⟨hs, hs, by simp, by simp, hf⟩
end Go.Proofs.YthofdmepofepgaaDoor
