/- What is passed over of bytes that come in two pieces: lists alone. Conditions: none. -/
import Derived.Test.YtggaifkjmlhmlabFrameG
namespace Go.Proofs.Ytggaifkjmlhmlab

theorem feedI_two (p q : List UInt8) : feedI (p ++ q) = if feedI p < 0 then (if feedI q < 0 then -1 else (p.length : Int) + feedI q) else feedI p := by
  rcases feeds p with hp | ⟨p1, r1, rfl, hp⟩
  · rw [feedI_no hp, if_pos (by decide)]
    rcases feeds q with hq | ⟨q1, s1, rfl, hq⟩
    · rw [feedI_no hq, if_pos (by decide), feedI_no (by simp [hp, hq])]
    · rw [feedI_of hq, if_neg (by omega), ← List.append_assoc, feedI_of (by simp [hp, hq]), List.length_append]
      omega
  · rw [List.append_assoc, List.cons_append, feedI_of hp, feedI_of hp, if_neg (by omega)]
/-- Pass, at a number that is not below 0: the four ways. -/
theorem pass_long {l : List UInt8} {s : Int} (h : (l.length : Int) < s) (b : Bool) : passN l s b = ((l.length : Int), s - l.length, b) := by
  unfold passN
  rw [if_neg (by omega : ¬ s < 0)]
  simp only [if_pos h]
theorem pass_plain {l : List UInt8} {s : Int} (h0 : 0 ≤ s) (h : s ≤ (l.length : Int)) : passN l s false = (s, 0, false) := by
  unfold passN
  rw [if_neg (by omega : ¬ s < 0)]
  simp only [if_neg (show ¬ (l.length : Int) < s by omega)]
  rfl
theorem pass_none {l : List UInt8} {s : Int} (h0 : 0 ≤ s) (h : s ≤ (l.length : Int)) (hf : feedI (l.drop s.toNat) < 0) : passN l s true = ((l.length : Int), 0, true) := by
  unfold passN
  rw [if_neg (by omega : ¬ s < 0)]
  simp only [if_neg (show ¬ (l.length : Int) < s by omega), if_pos hf]
  rfl
theorem pass_some {l : List UInt8} {s : Int} (h0 : 0 ≤ s) (h : s ≤ (l.length : Int)) (hf : ¬ feedI (l.drop s.toNat) < 0) : passN l s true = (s + feedI (l.drop s.toNat) + 1, 0, false) := by
  unfold passN
  rw [if_neg (by omega : ¬ s < 0)]
  simp only [if_neg (show ¬ (l.length : Int) < s by omega), if_neg hf]
  rfl
theorem pieces_few0 {p q : List UInt8} {s : Int} {b : Bool} (h0 : 0 ≤ s) (h : (passN p s b).1 < p.length) : (passN (p ++ q) s b).1 = (passN p s b).1 ∧ (passN (p ++ q) s b).2.1 = 0 ∧ (passN p s b).2.1 = 0 ∧ (passN (p ++ q) s b).2.2 = false ∧ (passN p s b).2.2 = false := by
  have hlen : ((p ++ q).length : Int) = (p.length : Int) + (q.length : Int) := by rw [List.length_append]; omega
  by_cases h1 : (p.length : Int) < s
  · rw [pass_long h1] at h; simp at h
  · have h1' : s ≤ (p.length : Int) := by omega
    have h1'' : s ≤ ((p ++ q).length : Int) := by omega
    cases b with
    | false => rw [pass_plain h0 h1', pass_plain h0 h1'']; simp
    | true =>
      by_cases h2 : feedI (p.drop s.toNat) < 0
      · rw [pass_none h0 h1' h2] at h; simp at h
      · have e : feedI ((p ++ q).drop s.toNat) = feedI (p.drop s.toNat) := by
          rw [List.drop_append_of_le_length (by omega), feedI_two, if_neg h2]
        rw [pass_some h0 h1' h2, pass_some h0 h1'' (by rw [e]; exact h2), e]
        simp
theorem pieces_all0 {p q : List UInt8} {s : Int} {b : Bool} (h0 : 0 ≤ s) (h : ¬ (passN p s b).1 < p.length) : (passN (p ++ q) s b).1 = (passN p s b).1 + (passN q (passN p s b).2.1 (passN p s b).2.2).1 ∧ (passN (p ++ q) s b).2 = (passN q (passN p s b).2.1 (passN p s b).2.2).2 := by
  have hlen : ((p ++ q).length : Int) = (p.length : Int) + (q.length : Int) := by rw [List.length_append]; omega
  by_cases h1 : (p.length : Int) < s
  · rw [pass_long h1]
    have hk : (p ++ q).drop s.toNat = q.drop (s - (p.length : Int)).toNat := by
      rw [List.drop_append, List.drop_eq_nil_of_le (by omega), List.nil_append]
      congr 1
      omega
    by_cases h2 : ((p ++ q).length : Int) < s
    · rw [pass_long h2, pass_long (show (q.length : Int) < s - (p.length : Int) by omega)]
      refine ⟨hlen, ?_⟩
      simp only [hlen]
      congr 1
      omega
    · cases b with
      | false =>
        rw [pass_plain h0 (by omega), pass_plain (show 0 ≤ s - (p.length : Int) by omega) (by omega)]
        exact ⟨by show s = (p.length : Int) + (s - (p.length : Int)); omega, rfl⟩
      | true =>
        by_cases h3 : feedI (q.drop (s - (p.length : Int)).toNat) < 0
        · rw [pass_none h0 (by omega) (by rw [hk]; exact h3), pass_none (show 0 ≤ s - (p.length : Int) by omega) (by omega) h3]
          exact ⟨hlen, rfl⟩
        · rw [pass_some h0 (by omega) (by rw [hk]; exact h3), pass_some (show 0 ≤ s - (p.length : Int) by omega) (by omega) h3, hk]
          refine ⟨?_, rfl⟩
          simp only
          omega
  · have h1' : s ≤ (p.length : Int) := by omega
    have h1'' : s ≤ ((p ++ q).length : Int) := by omega
    cases b with
    | false =>
      rw [pass_plain h0 h1', pass_plain h0 h1'', pass_plain (Int.le_refl 0) (by omega)]
      exact ⟨by show s = s + 0; omega, rfl⟩
    | true =>
      have hk := feedI_two (p.drop s.toNat) q
      rw [← List.drop_append_of_le_length (show s.toNat ≤ p.length by omega)] at hk
      have hdl : ((p.drop s.toNat).length : Int) = (p.length : Int) - s := by rw [List.length_drop]; omega
      by_cases h2 : feedI (p.drop s.toNat) < 0
      · rw [if_pos h2] at hk
        rw [pass_none h0 h1' h2]
        have hd : feedI (q.drop (0 : Int).toNat) = feedI q := by rw [Int.toNat_zero, List.drop_zero]
        by_cases h3 : feedI q < 0
        · rw [if_pos h3] at hk
          rw [pass_none h0 h1'' (by rw [hk]; decide), pass_none (Int.le_refl 0) (by omega) (by rw [hd]; exact h3)]
          exact ⟨hlen, rfl⟩
        · rw [if_neg h3] at hk
          rw [pass_some h0 h1'' (by rw [hk]; omega), pass_some (Int.le_refl 0) (by omega) (by rw [hd]; exact h3), hk, hd]
          refine ⟨?_, rfl⟩
          simp only
          omega
      · rw [if_neg h2] at hk
        rw [pass_some h0 h1' h2] at h
        have hlt := (feedI_lt (p.drop s.toNat)).1
        rw [pass_some h0 h1' h2, pass_some h0 h1'' (by rw [hk]; exact h2), pass_plain (Int.le_refl 0) (by omega), hk]
        refine ⟨?_, rfl⟩
        simp only
        omega
/-- Fewer than the first piece: the second one plays no part. -/
theorem pieces_few {p q : List UInt8} {s : Int} {b : Bool} (h : (passN p s b).1 < p.length) : (passN (p ++ q) s b).1 = (passN p s b).1 ∧ (passN (p ++ q) s b).2.1 = 0 ∧ (passN p s b).2.1 = 0 ∧ (passN (p ++ q) s b).2.2 = false ∧ (passN p s b).2.2 = false := by
  by_cases hs : s < 0
  · rw [passN_neg p hs] at h ⊢
    rw [passN_neg _ hs]
    exact pieces_few0 (Int.le_refl 0) h
  · exact pieces_few0 (by omega) h
theorem pieces_all {p q : List UInt8} {s : Int} {b : Bool} (h : ¬ (passN p s b).1 < p.length) : (passN (p ++ q) s b).1 = (passN p s b).1 + (passN q (passN p s b).2.1 (passN p s b).2.2).1 ∧ (passN (p ++ q) s b).2 = (passN q (passN p s b).2.1 (passN p s b).2.2).2 := by
  by_cases hs : s < 0
  · rw [passN_neg p hs] at h ⊢
    rw [passN_neg _ hs]
    exact pieces_all0 (Int.le_refl 0) h
  · exact pieces_all0 (by omega) h
theorem passN_bo (l : List UInt8) (s : Int) (b : Bool) : 0 ≤ (passN l s b).1 ∧ (passN l s b).1 ≤ l.length := by
  unfold passN
  have hf := feedI_lt (l.drop (if s < 0 then 0 else s).toNat)
  rw [List.length_drop] at hf
  have hs : 0 ≤ (if s < 0 then 0 else s) := by split <;> omega
  generalize (if s < 0 then 0 else s) = t at *
  simp only
  split
  · simp
  · split
    · simp; omega
    · split
      · simp
      · simp; omega
theorem passN_left (l : List UInt8) {s : Int} (hs : s < 9223372036854775808) (b : Bool) : 0 ≤ (passN l s b).2.1 ∧ (passN l s b).2.1 < 9223372036854775808 := by
  unfold passN
  have h2 : 0 ≤ (if s < 0 then 0 else s) ∧ (if s < 0 then 0 else s) < 9223372036854775808 := by split <;> omega
  generalize (if s < 0 then 0 else s) = t at *
  simp only
  split
  · simp; omega
  · split
    · simp
    · split
      · simp
      · simp
end Go.Proofs.Ytggaifkjmlhmlab
