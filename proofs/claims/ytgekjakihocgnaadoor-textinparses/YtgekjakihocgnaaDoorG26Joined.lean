/- More bytes behind a line or a body: lists alone. Conditions: none. More bytes behind a request: lists alone. Conditions: none. -/
import Derived.Test.YtgekjakihocgnaaDoorFrameM
import Derived.Test.YtgekjakihocgnaaDoorTextC
namespace Go.Proofs.YtgekjakihocgnaaDoor

/-- What more bytes change of a line: nothing that is there. -/
def LineMore (u v : List UInt8) : Prop :=
  (∃ (s t : List UInt8) (k m f : Int), lineN u = (s, k, 3) ∧ lineN (u ++ v) = (t, m, f)) ∨
  (∃ (t : List UInt8) (m : Int), lineN u = ([], (u.length : Int), 4) ∧ lineN (u ++ v) = (t, m, 4) ∧ (10 : UInt8) ∉ u ∧ 2049 < u.length) ∨
  (∃ (s : List UInt8) (k : Int), lineN u = (s, k, 0) ∧ lineN (u ++ v) = (s, k, 0)) ∨
  (∃ q : List UInt8, u = q ++ [10] ∧ lineN u = ([], (u.length : Int), 4) ∧ lineN (u ++ v) = ([], (u.length : Int), 4)) ∨
  (∃ k : Int, (¬ k = (u.length : Int)) ∧ lineN u = ([], k, 4) ∧ lineN (u ++ v) = ([], k, 4))
theorem line_more (u v : List UInt8) : LineMore u v := by
  rcases feeds u with hf | ⟨p, r, rfl, hf⟩
  · by_cases hl : 2049 < u.length
    · have h1 := lineN_no hf
      rw [if_pos hl] at h1
      rcases feeds v with hg | ⟨p2, r2, rfl, hg⟩
      · have h2 := lineN_no (l := u ++ v) (by simp [hf, hg])
        rw [if_pos (by rw [List.length_append]; omega)] at h2
        exact .inr (.inl ⟨_, _, h1, h2, hf, hl⟩)
      · have h2 := lineN_of (p := u ++ p2) (r := r2) (by simp [hf, hg])
        have h3 := (noCR_len (u ++ p2)).2
        rw [List.length_append] at h3
        rw [if_pos (by omega), List.append_assoc] at h2
        exact .inr (.inl ⟨_, _, h1, h2, hf, hl⟩)
    · have h1 := lineN_no hf
      rw [if_neg hl] at h1
      generalize h2 : lineN (u ++ v) = x
      obtain ⟨t, m, f⟩ := x
      exact .inl ⟨_, t, _, m, f, h1, h2⟩
  · have h1 := lineN_of (r := r) hf
    have h2 := lineN_of (r := r ++ v) hf
    rw [← List.cons_append, ← List.append_assoc] at h2
    by_cases hl : 2048 < (noCR p).length
    · rw [if_pos hl] at h1 h2
      cases r with
      | nil =>
        have e : ((p ++ [10]).length : Int) = (p.length : Int) + 1 := by rw [List.length_append]; rfl
        rw [← e] at h1 h2
        exact .inr (.inr (.inr (.inl ⟨p, rfl, h1, h2⟩)))
      | cons c r =>
        refine .inr (.inr (.inr (.inr ⟨_, ?_, h1, h2⟩)))
        rw [List.length_append, List.length_cons, List.length_cons]
        omega
    · rw [if_neg hl] at h1 h2
      exact .inr (.inr (.inl ⟨_, _, h1, h2⟩))
/-- What more bytes change of a body. -/
def BodyMore (u v : List UInt8) (n : Int) : Prop :=
  (bodyN u n = ([], 0, 3) ∧ ∃ (y : List UInt8) (j h : Int), bodyN (u ++ v) n = (y, j, h)) ∨
  (∃ (x : List UInt8) (i g : Int), (¬ g = 3) ∧ bodyN u n = (x, i, g) ∧ bodyN (u ++ v) n = (x, i, g))
theorem body_more (u v : List UInt8) (n : Int) : BodyMore u v n := by
  generalize hx : bodyN (u ++ v) n = z
  obtain ⟨y, j, h⟩ := z
  by_cases h1 : n < 0 ∨ 1000 < n
  · have e1 : bodyN u n = ([], 0, 2) := by unfold bodyN; rw [if_pos h1]
    have e2 : bodyN (u ++ v) n = ([], 0, 2) := by unfold bodyN; rw [if_pos h1]
    exact .inr ⟨_, _, _, by decide, e1, e2⟩
  · by_cases h2 : (u.length : Int) < n + 2
    · have e1 : bodyN u n = ([], 0, 3) := by unfold bodyN; rw [if_neg h1, if_pos h2]
      exact .inl ⟨e1, y, j, h, hx⟩
    · obtain ⟨k, rfl⟩ := Int.eq_ofNat_of_zero_le (show 0 ≤ n by omega)
      have e1 : bodyN u (k : Int) = if (u.drop k).take 2 = [13, 10] then (u.take k, (k : Int) + 2, 0) else ([], (k : Int), 2) := by
        unfold bodyN; rw [if_neg h1, if_neg h2]; rfl
      have e2 : bodyN (u ++ v) (k : Int) = if (u.drop k).take 2 = [13, 10] then (u.take k, (k : Int) + 2, 0) else ([], (k : Int), 2) := by
        unfold bodyN
        rw [if_neg h1, if_neg (by rw [List.length_append]; omega)]
        simp only [Int.toNat_natCast]
        rw [List.drop_append_of_le_length (by omega), List.take_append_of_le_length (by rw [List.length_drop]; omega), List.take_append_of_le_length (by omega)]
      by_cases h3 : (u.drop k).take 2 = [13, 10]
      · rw [if_pos h3] at e1 e2
        exact .inr ⟨_, _, _, by decide, e1, e2⟩
      · rw [if_neg h3] at e1 e2
        exact .inr ⟨_, _, _, by decide, e1, e2⟩
end Go.Proofs.YtgekjakihocgnaaDoor

namespace Go.Proofs.YtgekjakihocgnaaDoor
set_option linter.unusedVariables false

theorem parse_fits {p : List UInt8} (r : List UInt8) (h : (10 : UInt8) ∉ p) (hl : ¬ 2048 < (noCR p).length) : parseN (p ++ 10 :: r) = lineS (wordsL (noCR p)) r ((p.length + 1 : Nat) : Int) := by
  refine parse_of (l := noCR p) (by rw [lineN_of h, if_neg hl]; rfl) ?_
  have e : p ++ 10 :: r = (p ++ [10]) ++ r := by simp
  rw [e, List.drop_left' (by simp)]
theorem parse_far {p : List UInt8} (r : List UInt8) (h : (10 : UInt8) ∉ p) (hl : 2048 < (noCR p).length) : parseN (p ++ 10 :: r) = { refuseS t_long ((p.length : Int) + 1) with line := false } := by
  unfold parseN
  rw [lineN_of h, if_pos hl, cutL_of p r h]
  rfl
theorem parse_none {l : List UInt8} (h : (10 : UInt8) ∉ l) : parseN l = if 2049 < l.length then { refuseS t_long (l.length : Int) with line := true } else moreS := by
  unfold parseN
  rw [lineN_no h, cutL_no l h]
  split <;> rfl
/-- A line with more bytes behind its body. -/
theorem lineS_more (ws : List (List UInt8)) (r v : List UInt8) (u : Int) : lineS ws r u = moreS ∨ ((lineS ws r u).e ≠ 3 ∧ lineS ws (r ++ v) u = lineS ws r u) := by
  unfold lineS
  by_cases hf : (readN ws).2 = []
  · simp only [if_pos hf]
    unfold finishN
    by_cases hs : (readN ws).1.sized = false
    · simp only [if_pos hs]
      exact .inr ⟨by decide, trivial⟩
    · simp only [if_neg hs]
      rcases body_more r v (readN ws).1.size with ⟨b1, _⟩ | ⟨x, i, g, hg, b1, b2⟩
      · left
        rw [b1]
        rfl
      · right
        rw [b1, b2]
        simp only [if_neg hg]
        refine ⟨?_, trivial⟩
        split
        · show (2 : Int) ≠ 3
          decide
        · show (0 : Int) ≠ 3
          decide
  · simp only [if_neg hf]
    exact .inr ⟨by show (2 : Int) ≠ 3; decide, trivial⟩
/-- P14.5. -/
theorem more_ways (u v : List UInt8) (hu : u.length ≤ 5000) : parseN u = moreS ∨ ((parseN u).e ≠ 3 ∧ parseN (u ++ v) = parseN u ∧ Few1 (parseN u).req) ∨ (∃ (m : Int) (b : Bool), parseN u = { refuseS t_long (u.length : Int) with line := true } ∧ parseN (u ++ v) = { refuseS t_long m with line := b }) := by
  rcases feeds u with hf | ⟨p, r, rfl, hf⟩
  · by_cases hl : 2049 < u.length
    · have h1 := parse_none hf
      rw [if_pos hl] at h1
      right; right
      rcases feeds v with hg | ⟨p2, r2, rfl, hg⟩
      · have h2 := parse_none (l := u ++ v) (by simp [hf, hg])
        rw [if_pos (by rw [List.length_append]; omega)] at h2
        exact ⟨_, _, h1, h2⟩
      · have h3 := (noCR_len (u ++ p2)).2
        rw [List.length_append] at h3
        have h2 := parse_far (p := u ++ p2) r2 (by simp [hf, hg]) (by omega)
        rw [List.append_assoc] at h2
        exact ⟨_, _, h1, h2⟩
    · left
      rw [parse_none hf, if_neg hl]
  · have e : (p ++ 10 :: r) ++ v = p ++ 10 :: (r ++ v) := by simp
    rw [e]
    by_cases hl : 2048 < (noCR p).length
    · rw [parse_far r hf hl, parse_far (r ++ v) hf hl]
      exact .inr (.inl ⟨by show (2 : Int) ≠ 3; decide, rfl, few_no⟩)
    · rw [parse_fits r hf hl, parse_fits (r ++ v) hf hl]
      rcases lineS_more (wordsL (noCR p)) r v ((p.length + 1 : Nat) : Int) with h | ⟨h1, h2⟩
      · exact .inl h
      · exact .inr (.inl ⟨h1, h2, line_few _ _ _ (by have := wordsL_len (noCR p); omega)⟩)
/-- A request has a command, or is none. -/
theorem req_ok (l : List UInt8) : (parseN l).req = noQ ∨ 0 < (parseN l).req.cmds.length := by
  have key : ∀ d : Dv, 0 < (reqD d).cmds.length := fun d => by
    show 0 < (if d.keys = [] then [cmdD d []] else d.keys.map (cmdD d)).length
    split
    · simp
    · rename_i h
      rw [List.length_map]
      exact List.length_pos_iff.2 h
  unfold parseN
  split
  · exact .inl rfl
  · split
    · exact .inl rfl
    · unfold lineS
      split
      · unfold finishN
        repeat' split
        · exact .inr (key _)
        · exact .inl rfl
        · exact .inl rfl
        · exact .inr (key _)
      · exact .inl rfl
end Go.Proofs.YtgekjakihocgnaaDoor
