/- More bytes behind a line or a body: lists alone. Conditions: none. -/
import Derived.Test.YtfcmnkhfmofioaaDoorG00Joined
namespace Go.Proofs.YtfcmnkhfmofioaaDoor

/-- What more bytes change of a line: nothing that is there. -/
def LineMore (u v : List UInt8) : Prop :=
  (∃ (s t : List UInt8) (k m f : Int), lineN u = (s, k, 3) ∧ lineN (u ++ v) = (t, m, f)) ∨
  (∃ (t : List UInt8) (m : Int), lineN u = ([], (u.length : Int), 4) ∧ lineN (u ++ v) = (t, m, 4) ∧ (10 : UInt8) ∉ u ∧ 2049 < u.length) ∨
  (∃ (s : List UInt8) (k : Int), lineN u = (s, k, 0) ∧ lineN (u ++ v) = (s, k, 0)) ∨
  (∃ q : List UInt8, u = q ++ [10] ∧ lineN u = ([], (u.length : Int), 4) ∧ lineN (u ++ v) = ([], (u.length : Int), 4)) ∨
  (∃ k : Int, (¬ k = (u.length : Int)) ∧ lineN u = ([], k, 4) ∧ lineN (u ++ v) = ([], k, 4))
theorem line_more (u v : List UInt8) : LineMore u v := by
  rcases feeds u with hf | ⟨p, r, rfl, hf⟩
  · by_cases hl : 2049 < u.length
    · have h1 := lineN_no hf
      rw [if_pos hl] at h1
      rcases feeds v with hg | ⟨p2, r2, rfl, hg⟩
      · have h2 := lineN_no (l := u ++ v) (by simp [hf, hg])
        rw [if_pos (by rw [List.length_append]; omega)] at h2
        exact .inr (.inl ⟨_, _, h1, h2, hf, hl⟩)
      · have h2 := lineN_of (p := u ++ p2) (r := r2) (by simp [hf, hg])
        have h3 := (noCR_len (u ++ p2)).2
        rw [List.length_append] at h3
        rw [if_pos (by omega), List.append_assoc] at h2
        exact .inr (.inl ⟨_, _, h1, h2, hf, hl⟩)
    · have h1 := lineN_no hf
      rw [if_neg hl] at h1
      generalize h2 : lineN (u ++ v) = x
      obtain ⟨t, m, f⟩ := x
      exact .inl ⟨_, t, _, m, f, h1, h2⟩
  · have h1 := lineN_of (r := r) hf
    have h2 := lineN_of (r := r ++ v) hf
    rw [← List.cons_append, ← List.append_assoc] at h2
    by_cases hl : 2048 < (noCR p).length
    · rw [if_pos hl] at h1 h2
      cases r with
      | nil =>
        have e : ((p ++ [10]).length : Int) = (p.length : Int) + 1 := by rw [List.length_append]; rfl
        rw [← e] at h1 h2
        exact .inr (.inr (.inr (.inl ⟨p, rfl, h1, h2⟩)))
      | cons c r =>
        refine .inr (.inr (.inr (.inr ⟨_, ?_, h1, h2⟩)))
        rw [List.length_append, List.length_cons, List.length_cons]
        omega
    · rw [if_neg hl] at h1 h2
      exact .inr (.inr (.inl ⟨_, _, h1, h2⟩))
/-- What more bytes change of a body. -/
def BodyMore (u v : List UInt8) (n : Int) : Prop :=
  (bodyN u n = ([], 0, 3) ∧ ∃ (y : List UInt8) (j h : Int), bodyN (u ++ v) n = (y, j, h)) ∨
  (∃ (x : List UInt8) (i g : Int), (¬ g = 3) ∧ bodyN u n = (x, i, g) ∧ bodyN (u ++ v) n = (x, i, g))
theorem body_more (u v : List UInt8) (n : Int) : BodyMore u v n := by
  generalize hx : bodyN (u ++ v) n = z
  obtain ⟨y, j, h⟩ := z
  by_cases h1 : n < 0 ∨ 1000 < n
  · have e1 : bodyN u n = ([], 0, 2) := by unfold bodyN; rw [if_pos h1]
    have e2 : bodyN (u ++ v) n = ([], 0, 2) := by unfold bodyN; rw [if_pos h1]
    exact .inr ⟨_, _, _, by decide, e1, e2⟩
  · by_cases h2 : (u.length : Int) < n + 2
    · have e1 : bodyN u n = ([], 0, 3) := by unfold bodyN; rw [if_neg h1, if_pos h2]
      exact .inl ⟨e1, y, j, h, hx⟩
    · obtain ⟨k, rfl⟩ := Int.eq_ofNat_of_zero_le (show 0 ≤ n by omega)
      have e1 : bodyN u (k : Int) = if (u.drop k).take 2 = [13, 10] then (u.take k, (k : Int) + 2, 0) else ([], (k : Int), 2) := by
        unfold bodyN; rw [if_neg h1, if_neg h2]; rfl
      have e2 : bodyN (u ++ v) (k : Int) = if (u.drop k).take 2 = [13, 10] then (u.take k, (k : Int) + 2, 0) else ([], (k : Int), 2) := by
        unfold bodyN
        rw [if_neg h1, if_neg (by rw [List.length_append]; omega)]
        simp only [Int.toNat_natCast]
        rw [List.drop_append_of_le_length (by omega), List.take_append_of_le_length (by rw [List.length_drop]; omega), List.take_append_of_le_length (by omega)]
      by_cases h3 : (u.drop k).take 2 = [13, 10]
      · rw [if_pos h3] at e1 e2
        exact .inr ⟨_, _, _, by decide, e1, e2⟩
      · rw [if_neg h3] at e1 e2
        exact .inr ⟨_, _, _, by decide, e1, e2⟩
end Go.Proofs.YtfcmnkhfmofioaaDoor
