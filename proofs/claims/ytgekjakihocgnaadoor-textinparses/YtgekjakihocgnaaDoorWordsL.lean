/- The words of a line, as a plain function: the longest pieces without a blank, from the left. Conditions: none. -/
import Derived.Test.YtgekjakihocgnaaDoorG05Joined
namespace Go.Proofs.YtgekjakihocgnaaDoor

/-- The words of what is left, a word being under way. -/
def wd : List UInt8 → List UInt8 → List (List UInt8)
  | cur, [] => if cur = [] then [] else [cur]
  | cur, c :: r => if c = 32 then (if cur = [] then wd [] r else cur :: wd [] r) else wd (cur ++ [c]) r
/-- What is still to come at place k, the word under way having begun at place a. -/
def restL (l : List UInt8) (a k : Nat) : List (List UInt8) := if k ≤ l.length then wd ((l.take k).drop a) (l.drop k) else []
def mkB (l : List UInt8) : ByteArray := ⟨l.toArray⟩
def restW (s : ByteArray) (a k : Nat) : List ByteArray := (restL s.data.toList a k).map mkB
def wordsB (s : ByteArray) : List ByteArray := restW s 0 0

theorem restL_go (l : List UInt8) (a k : Nat) (h : k < l.length) (ha : a ≤ k) (hc : l[k] ≠ 32) : restL l a k = restL l a (k + 1) := by
  unfold restL
  rw [if_pos (by omega), if_pos (by omega), List.drop_eq_getElem_cons h]
  simp only [wd]
  rw [if_neg hc, List.take_succ_eq_append_getElem h, List.drop_append_of_le_length (by rw [List.length_take]; omega)]
theorem cur_nil (l : List UInt8) (a k : Nat) (hk : k ≤ l.length) : (l.take k).drop a = [] ↔ k ≤ a := by
  rw [List.drop_eq_nil_iff, List.length_take]
  omega
theorem restL_new (l : List UInt8) (k : Nat) (h : k < l.length) : restL l (k + 1) (k + 1) = wd [] (l.drop (k + 1)) := by
  unfold restL
  rw [if_pos (by omega), (cur_nil l (k + 1) (k + 1) (by omega)).2 (Nat.le_refl _)]
theorem restL_word (l : List UInt8) (a k : Nat) (hk : k ≤ l.length) (ha : a < k) (hc : ∀ h : k < l.length, l[k] = 32) : restL l a k = ((l.take k).drop a) :: restL l (k + 1) (k + 1) := by
  have hne : ¬ (l.take k).drop a = [] := by rw [cur_nil l a k hk]; omega
  rcases Nat.lt_or_ge k l.length with h | h
  · rw [restL_new l k h]
    unfold restL
    rw [if_pos hk, List.drop_eq_getElem_cons h]
    simp only [wd]
    rw [if_pos (hc h), if_neg hne]
  · unfold restL
    rw [if_pos hk, if_neg (by omega), List.drop_of_length_le (i := k) (l := l) h]
    simp only [wd]
    rw [if_neg hne]
theorem restL_skip (l : List UInt8) (a k : Nat) (hk : k ≤ l.length) (ha : k ≤ a) (hc : ∀ h : k < l.length, l[k] = 32) : restL l a k = restL l (k + 1) (k + 1) := by
  have hne : (l.take k).drop a = [] := (cur_nil l a k hk).2 ha
  rcases Nat.lt_or_ge k l.length with h | h
  · rw [restL_new l k h]
    unfold restL
    rw [if_pos hk, List.drop_eq_getElem_cons h]
    simp only [wd]
    rw [if_pos (hc h), if_pos hne]
  · unfold restL
    rw [if_pos hk, if_neg (by omega), List.drop_of_length_le (i := k) (l := l) h]
    simp only [wd]
    rw [if_pos hne]
theorem restL_end (l : List UInt8) (a k : Nat) (h : l.length < k) : restL l a k = [] := by unfold restL; rw [if_neg (by omega)]

theorem extract_mk (s : ByteArray) (a k : Nat) : s.extract a k = mkB ((s.data.toList.take k).drop a) := by
  apply ByteArray.ext
  rw [ByteArray.data_extract]
  apply Array.ext'
  rw [Array.toList_extract]
  simp only [List.extract, mkB]
  rw [List.drop_take]

theorem wd_len : ∀ (r cur : List UInt8), (wd cur r).length ≤ r.length + 1
  | [], cur => by simp only [wd]; split <;> simp
  | c :: r, cur => by
    simp only [wd]
    split
    · split
      · have := wd_len r []; simp only [List.length_cons]; omega
      · have := wd_len r []; simp only [List.length_cons]; omega
    · have := wd_len r (cur ++ [c]); simp only [List.length_cons]; omega
theorem wordsB_len (s : ByteArray) : (wordsB s).length ≤ s.size + 1 := by
  have h := wd_len s.data.toList []
  rw [size_list] at h
  simp only [wordsB, restW, List.length_map, restL, Nat.zero_le, if_true, List.take_zero, List.drop_zero, List.drop_nil]
  exact h
end Go.Proofs.YtgekjakihocgnaaDoor
