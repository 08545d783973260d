/- Plain facts of chapter 14's step: lines that are put together, and what hangs on the bytes that a line takes. Conditions: none. -/
import Derived.Test.YtgekjakihocgnaaDoorTextN
import Derived.Test.YtgekjakihocgnaaDoorG21Joined
namespace Go.Proofs.YtgekjakihocgnaaDoor
set_option linter.unusedVariables false

theorem noCR_id {l : List UInt8} (h : (13 : UInt8) ∉ l) : noCR l = l := by
  unfold noCR
  rw [if_neg]
  intro e
  exact h (List.mem_of_getLast? e)
/-- A line with a carriage return and a line feed. -/
theorem lineN_crlf {l : List UInt8} (r : List UInt8) (h : (10 : UInt8) ∉ l) (hl : l.length ≤ 2048) : lineN (l ++ 13 :: 10 :: r) = (l, (l.length : Int) + 2, 0) := by
  have e : l ++ 13 :: 10 :: r = (l ++ [13]) ++ 10 :: r := by simp
  have h2 : (10 : UInt8) ∉ l ++ [13] := by
    intro hm
    rcases List.mem_append.1 hm with h1 | h1
    · exact h h1
    · simp at h1
  rw [e, lineN_of h2, noCR_snoc, if_neg (by omega), List.length_append]
  simp
  omega
theorem lineN_lf {l : List UInt8} (r : List UInt8) (h : (10 : UInt8) ∉ l) (h13 : (13 : UInt8) ∉ l) (hl : l.length ≤ 2048) : lineN (l ++ 10 :: r) = (l, (l.length : Int) + 1, 0) := by
  rw [lineN_of h, noCR_id h13, if_neg (by omega)]
theorem parse_of {b l r : List UInt8} {u : Nat} (h : lineN b = (l, (u : Int), 0)) (hb : b.drop u = r) : parseN b = lineS (wordsL l) r (u : Int) := by
  unfold parseN
  rw [h]
  simp only []
  rw [if_neg (by decide), if_neg (by decide), Int.toNat_natCast, hb]
theorem parse_crlf {l : List UInt8} (r : List UInt8) (h : (10 : UInt8) ∉ l) (hl : l.length ≤ 2048) : parseN (l ++ 13 :: 10 :: r) = lineS (wordsL l) r ((l.length + 2 : Nat) : Int) := by
  refine parse_of (l := l) (by rw [lineN_crlf r h hl]; rfl) ?_
  have e : l ++ 13 :: 10 :: r = (l ++ [13, 10]) ++ r := by simp
  rw [e, List.drop_left' (by simp)]
theorem parse_lf {l : List UInt8} (r : List UInt8) (h : (10 : UInt8) ∉ l) (h13 : (13 : UInt8) ∉ l) (hl : l.length ≤ 2048) : parseN (l ++ 10 :: r) = lineS (wordsL l) r ((l.length + 1 : Nat) : Int) := by
  refine parse_of (l := l) (by rw [lineN_lf r h h13 hl]; rfl) ?_
  have e : l ++ 10 :: r = (l ++ [10]) ++ r := by simp
  rw [e, List.drop_left' (by simp)]
/-- With nothing behind it a line is waited for, or hangs on what it takes by that number alone. -/
theorem lineS_nil (ws : List (List UInt8)) : (∀ u, lineS ws [] u = moreS) ∨ ∃ s : Sv, s.e ≠ 3 ∧ ∀ u, lineS ws [] u = { s with used := u } := by
  unfold lineS
  by_cases hf : (readN ws).2 = []
  · simp only [if_pos hf]
    unfold finishN
    cases hs : (readN ws).1.sized
    · simp only [if_true]
      exact .inr ⟨⟨reqD (readN ws).1, ⟨#[]⟩, 0, 0, false, 0⟩, by show (0 : Int) ≠ 3; decide, fun u => rfl⟩
    · left
      intro u
      rw [if_neg (by simp)]
      obtain ⟨h1, h2, h3⟩ := readN_ok ws
      have hz := h1.size
      have hz2 := h3 hf
      have e : (bodyN [] (readN ws).1.size).2.2 = 3 := by
        unfold bodyN
        rw [if_neg (by omega), if_pos (by simp; omega)]
      rw [if_pos e]
  · simp only [if_neg hf]
    exact .inr ⟨{ refuseS (readN ws).2 0 with skip := skipN (readN ws).1 }, by show (2 : Int) ≠ 3; decide, fun u => rfl⟩
theorem few_req {d : Dv} {n : Nat} (h : d.keys.length ≤ n) (hn : n ≤ 100000) : Few1 (reqD d) := by
  refine ⟨?_, ?_, by simp [reqD, formD]⟩
  · show (if d.keys = [] then [cmdD d []] else d.keys.map (cmdD d)).length ≤ 1000000
    split
    · simp
    · rw [List.length_map]; omega
  · show (d.keys.map mkB).length ≤ 1000000
    rw [List.length_map]; omega
theorem few_no : Few1 noQ := ⟨by decide, by decide, by decide⟩
theorem line_few (ws : List (List UInt8)) (r : List UInt8) (u : Int) (hw : ws.length ≤ 100000) : Few1 (lineS ws r u).req := by
  obtain ⟨h1, h2, h3⟩ := readN_ok ws
  unfold lineS
  split
  · unfold finishN
    repeat' split
    · exact few_req h1.keys hw
    · exact few_no
    · exact few_no
    · exact few_req (d := { (readN ws).1 with val := _ }) h1.keys hw
  · exact few_no
end Go.Proofs.YtgekjakihocgnaaDoor
