/- More bytes behind a request: lists alone. Conditions: none. -/
import Derived.Test.YtfcmnkhfmofioaaDoorG12Joined
import Derived.Test.YtfcmnkhfmofioaaDoorFrameMoreM
namespace Go.Proofs.YtfcmnkhfmofioaaDoor
set_option linter.unusedVariables false

theorem parse_fits {p : List UInt8} (r : List UInt8) (h : (10 : UInt8) ∉ p) (hl : ¬ 2048 < (noCR p).length) : parseN (p ++ 10 :: r) = lineS (wordsL (noCR p)) r ((p.length + 1 : Nat) : Int) := by
  refine parse_of (l := noCR p) (by rw [lineN_of h, if_neg hl]; rfl) ?_
  have e : p ++ 10 :: r = (p ++ [10]) ++ r := by simp
  rw [e, List.drop_left' (by simp)]
theorem parse_far {p : List UInt8} (r : List UInt8) (h : (10 : UInt8) ∉ p) (hl : 2048 < (noCR p).length) : parseN (p ++ 10 :: r) = { refuseS t_long ((p.length : Int) + 1) with line := false } := by
  unfold parseN
  rw [lineN_of h, if_pos hl, cutL_of p r h]
  rfl
theorem parse_none {l : List UInt8} (h : (10 : UInt8) ∉ l) : parseN l = if 2049 < l.length then { refuseS t_long (l.length : Int) with line := true } else moreS := by
  unfold parseN
  rw [lineN_no h, cutL_no l h]
  split <;> rfl
/-- A line with more bytes behind its body. -/
theorem lineS_more (ws : List (List UInt8)) (r v : List UInt8) (u : Int) : lineS ws r u = moreS ∨ ((lineS ws r u).e ≠ 3 ∧ lineS ws (r ++ v) u = lineS ws r u) := by
  unfold lineS
  by_cases hf : (readN ws).2 = []
  · simp only [if_pos hf]
    unfold finishN
    by_cases hs : (readN ws).1.sized = false
    · simp only [if_pos hs]
      exact .inr ⟨by decide, trivial⟩
    · simp only [if_neg hs]
      rcases body_more r v (readN ws).1.size with ⟨b1, _⟩ | ⟨x, i, g, hg, b1, b2⟩
      · left
        rw [b1]
        rfl
      · right
        rw [b1, b2]
        simp only [if_neg hg]
        refine ⟨?_, trivial⟩
        split
        · show (2 : Int) ≠ 3
          decide
        · show (0 : Int) ≠ 3
          decide
  · simp only [if_neg hf]
    exact .inr ⟨by show (2 : Int) ≠ 3; decide, trivial⟩
/-- P14.5. -/
theorem more_ways (u v : List UInt8) (hu : u.length ≤ 5000) : parseN u = moreS ∨ ((parseN u).e ≠ 3 ∧ parseN (u ++ v) = parseN u ∧ Few1 (parseN u).req) ∨ (∃ (m : Int) (b : Bool), parseN u = { refuseS t_long (u.length : Int) with line := true } ∧ parseN (u ++ v) = { refuseS t_long m with line := b }) := by
  rcases feeds u with hf | ⟨p, r, rfl, hf⟩
  · by_cases hl : 2049 < u.length
    · have h1 := parse_none hf
      rw [if_pos hl] at h1
      right; right
      rcases feeds v with hg | ⟨p2, r2, rfl, hg⟩
      · have h2 := parse_none (l := u ++ v) (by simp [hf, hg])
        rw [if_pos (by rw [List.length_append]; omega)] at h2
        exact ⟨_, _, h1, h2⟩
      · have h3 := (noCR_len (u ++ p2)).2
        rw [List.length_append] at h3
        have h2 := parse_far (p := u ++ p2) r2 (by simp [hf, hg]) (by omega)
        rw [List.append_assoc] at h2
        exact ⟨_, _, h1, h2⟩
    · left
      rw [parse_none hf, if_neg hl]
  · have e : (p ++ 10 :: r) ++ v = p ++ 10 :: (r ++ v) := by simp
    rw [e]
    by_cases hl : 2048 < (noCR p).length
    · rw [parse_far r hf hl, parse_far (r ++ v) hf hl]
      exact .inr (.inl ⟨by show (2 : Int) ≠ 3; decide, rfl, few_no⟩)
    · rw [parse_fits r hf hl, parse_fits (r ++ v) hf hl]
      rcases lineS_more (wordsL (noCR p)) r v ((p.length + 1 : Nat) : Int) with h | ⟨h1, h2⟩
      · exact .inl h
      · exact .inr (.inl ⟨h1, h2, line_few _ _ _ (by have := wordsL_len (noCR p); omega)⟩)
/-- A request has a command, or is none. -/
theorem req_ok (l : List UInt8) : (parseN l).req = noQ ∨ 0 < (parseN l).req.cmds.length := by
  have key : ∀ d : Dv, 0 < (reqD d).cmds.length := fun d => by
    show 0 < (if d.keys = [] then [cmdD d []] else d.keys.map (cmdD d)).length
    split
    · simp
    · rename_i h
      rw [List.length_map]
      exact List.length_pos_iff.2 h
  unfold parseN
  split
  · exact .inl rfl
  · split
    · exact .inl rfl
    · unfold lineS
      split
      · unfold finishN
        repeat' split
        · exact .inr (key _)
        · exact .inl rfl
        · exact .inl rfl
        · exact .inr (key _)
      · exact .inl rfl
end Go.Proofs.YtfcmnkhfmofioaaDoor
