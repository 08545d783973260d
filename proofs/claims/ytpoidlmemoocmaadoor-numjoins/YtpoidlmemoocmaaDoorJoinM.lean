/- Plain facts of the words of a line: put together with one blank between two they have the same words, and are no longer than the line. Conditions: none. -/
import Derived.Test.YtpoidlmemoocmaaDoorWordsL
namespace Go.Proofs.YtpoidlmemoocmaaDoor

/-- Texts with one blank between two. -/
def joinL : List (List UInt8) → List UInt8
  | [] => []
  | [x] => x
  | x :: y :: r => x ++ 32 :: joinL (y :: r)
theorem joinL_cons (x : List UInt8) (r : List (List UInt8)) (h : r ≠ []) : joinL (x :: r) = x ++ 32 :: joinL r := by
  cases r with
  | nil => exact absurd rfl h
  | cons y r => rfl
theorem joinL_snoc (x : List UInt8) : ∀ (A : List (List UInt8)), A ≠ [] → joinL (A ++ [x]) = joinL A ++ 32 :: x
  | [], h => absurd rfl h
  | [a], _ => rfl
  | a :: b :: r, _ => by
    have ih := joinL_snoc x (b :: r) (by simp)
    rw [List.cons_append, joinL_cons a _ (by simp), ih, joinL_cons a (b :: r) (by simp)]
    simp
theorem joinL_mono (B : List (List UInt8)) : ∀ (A : List (List UInt8)), (joinL A).length ≤ (joinL (A ++ B)).length
  | [] => by simp [joinL]
  | [a] => by
    by_cases h : B = []
    · subst h; exact Nat.le_refl _
    · rw [List.cons_append, List.nil_append, joinL_cons a B h]
      simp [joinL]
  | a :: b :: r => by
    have ih := joinL_mono B (b :: r)
    have e1 : joinL (a :: b :: r ++ B) = a ++ 32 :: joinL (b :: r ++ B) := joinL_cons a (b :: r ++ B) (by simp)
    have e2 : joinL (a :: b :: r) = a ++ 32 :: joinL (b :: r) := rfl
    rw [e1, e2]
    simp only [List.length_append, List.length_cons]
    omega
theorem joinL_wd : ∀ (r cur : List UInt8), (joinL (wd cur r)).length ≤ cur.length + r.length
  | [], cur => by
    simp only [wd]
    split
    · simp [joinL]
    · simp [joinL]
  | c :: r, cur => by
    simp only [wd]
    split
    · split
      · have := joinL_wd r []; simp only [List.length_cons, List.length_nil] at *; omega
      · have := joinL_wd r []
        by_cases h : wd [] r = []
        · rw [h]; simp [joinL]
        · rw [joinL_cons cur _ h]
          simp only [List.length_append, List.length_cons, List.length_nil] at *
          omega
    · have := joinL_wd r (cur ++ [c]); simp only [List.length_append, List.length_cons, List.length_nil] at *; omega
theorem wd_ok : ∀ (r cur : List UInt8), (32 : UInt8) ∉ cur → ∀ x ∈ wd cur r, x ≠ [] ∧ (32 : UInt8) ∉ x
  | [], cur, hc => by
    intro x hx
    simp only [wd] at hx
    split at hx
    · simp at hx
    · rename_i h
      simp only [List.mem_singleton] at hx
      subst hx
      exact ⟨h, hc⟩
  | c :: r, cur, hc => by
    intro x hx
    simp only [wd] at hx
    split at hx
    · split at hx
      · exact wd_ok r [] (by simp) x hx
      · rename_i h
        rcases List.mem_cons.1 hx with e | hx
        · subst e; exact ⟨h, hc⟩
        · exact wd_ok r [] (by simp) x hx
    · rename_i h
      refine wd_ok r (cur ++ [c]) ?_ x hx
      intro hm
      rcases List.mem_append.1 hm with h1 | h1
      · exact hc h1
      · simp only [List.mem_singleton] at h1
        exact h h1.symm
theorem wd_blank (r : List UInt8) : ∀ (t cur : List UInt8), wd cur (t ++ 32 :: r) = wd cur t ++ wd [] r
  | [], cur => by
    simp only [List.nil_append, wd]
    by_cases h : cur = []
    · simp [h]
    · simp [h]
  | c :: t, cur => by
    simp only [List.cons_append, wd]
    by_cases h : c = 32
    · rw [if_pos h, if_pos h]
      by_cases h2 : cur = []
      · rw [if_pos h2, if_pos h2, wd_blank r t []]
      · rw [if_neg h2, if_neg h2, wd_blank r t []]; rfl
    · rw [if_neg h, if_neg h, wd_blank r t (cur ++ [c])]
theorem wd_word : ∀ (x cur : List UInt8), (32 : UInt8) ∉ x → wd cur x = if cur ++ x = [] then [] else [cur ++ x]
  | [], cur, _ => by simp [wd]
  | c :: x, cur, h => by
    have hc : ¬ c = 32 := fun e => h (by rw [e]; exact List.mem_cons_self)
    have hx : (32 : UInt8) ∉ x := fun e => h (List.mem_cons_of_mem _ e)
    simp only [wd]
    rw [if_neg hc, wd_word x (cur ++ [c]) hx]
    simp
theorem wd_join : ∀ (L : List (List UInt8)), (∀ x ∈ L, x ≠ [] ∧ (32 : UInt8) ∉ x) → wd [] (joinL L) = L
  | [], _ => rfl
  | [x], h => by
    have := h x (by simp)
    simp only [joinL]
    rw [wd_word x [] this.2, List.nil_append, if_neg this.1]
  | x :: y :: r, h => by
    have hx := h x (by simp)
    rw [joinL_cons x _ (by simp), wd_blank, wd_word x [] hx.2, List.nil_append, if_neg hx.1, wd_join (y :: r) (fun z hz => h z (List.mem_cons_of_mem _ hz))]
    rfl
/-- The words of a line, as lists. -/
def wordsL (l : List UInt8) : List (List UInt8) := wd [] l
theorem wordsB_L (s : ByteArray) : wordsB s = (wordsL s.data.toList).map mkB := by
  unfold wordsB restW restL wordsL
  rw [if_pos (Nat.zero_le _)]
  simp
theorem wordsL_join (l : List UInt8) : wordsL (joinL (wordsL l)) = wordsL l := wd_join _ (wd_ok l [] (by simp))
theorem wordsL_len (l : List UInt8) : (joinL (wordsL l)).length ≤ l.length := by
  have := joinL_wd l []
  unfold wordsL
  simpa using this
end Go.Proofs.YtpoidlmemoocmaaDoor
