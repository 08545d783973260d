/- The three ways of what is parsed. Conditions: none. -/
import Derived.Test.YthofdmepofepgaaDoorTextSaneN
namespace Go.Proofs.YthofdmepofepgaaDoor
set_option linter.unusedVariables false

theorem line_in (l : List UInt8) : (lineN l).2.2 = 3 ∨ ((lineN l).2.2 = 4 ∨ (lineN l).2.2 = 0) ∧ 0 < (lineN l).2.1 ∧ (lineN l).2.1 ≤ (l.length : Int) := by
  rcases feeds l with h | ⟨p, r, rfl, h⟩
  · rw [lineN_no h]
    split
    · right
      refine ⟨.inl rfl, ?_, ?_⟩
      · show (0 : Int) < (l.length : Int)
        omega
      · exact Int.le_refl _
    · exact .inl rfl
  · rw [lineN_of h]
    have e : ((p ++ 10 :: r).length : Int) = (p.length : Int) + 1 + (r.length : Int) := by rw [List.length_append, List.length_cons]; omega
    rw [e]
    split
    · right
      refine ⟨.inl rfl, ?_, ?_⟩
      · show (0 : Int) < (p.length : Int) + 1
        omega
      · show (p.length : Int) + 1 ≤ _
        omega
    · right
      refine ⟨.inr rfl, ?_, ?_⟩
      · show (0 : Int) < (p.length : Int) + 1
        omega
      · show (p.length : Int) + 1 ≤ _
        omega
theorem body_in (l : List UInt8) {n : Int} (h : 0 ≤ n ∧ n ≤ 1000) (h3 : (bodyN l n).2.2 ≠ 3) : 0 ≤ (bodyN l n).2.1 ∧ (bodyN l n).2.1 ≤ (l.length : Int) ∧ (bodyN l n).1.length ≤ 1000 := by
  unfold bodyN at h3 ⊢
  rw [if_neg (by omega)] at h3 ⊢
  by_cases hl : (l.length : Int) < n + 2
  · rw [if_pos hl] at h3
    exact absurd rfl h3
  · rw [if_neg hl]
    split
    · refine ⟨?_, ?_, ?_⟩
      · show 0 ≤ n + 2
        omega
      · show n + 2 ≤ _
        omega
      · show (l.take n.toNat).length ≤ 1000
        rw [List.length_take]
        omega
    · refine ⟨h.1, ?_, ?_⟩
      · show n ≤ _
        omega
      · show (0 : Nat) ≤ 1000
        omega
/-- None yet, an error with its reply, or a request that may be. -/
def SaneS (s : Sv) (n : Int) : Prop :=
  s = moreS ∨
  (∃ (f : List UInt8) (used skip : Int) (line : Bool), s = ⟨noQ, mkB (f ++ t_end), used, skip, line, 2⟩ ∧ 0 < f.length ∧ f.length ≤ 1000 ∧ 0 < used ∧ used ≤ n ∧ 0 ≤ skip) ∨
  (∃ (r : Qv) (used : Int), s = ⟨r, ⟨#[]⟩, used, 0, false, 0⟩ ∧ 0 < used ∧ used ≤ n ∧ 0 < r.cmds.length ∧ r.cmds.length ≤ 16 ∧ ∀ c ∈ r.cmds, MayC c)
theorem lineS_sane (ws : List (List UInt8)) (rest : List UInt8) (used n : Int) (h0 : 0 < used) (hn : used + (rest.length : Int) ≤ n) : SaneS (lineS ws rest used) n := by
  obtain ⟨h1, h2, h3⟩ := readN_ok ws
  unfold lineS
  by_cases hf : (readN ws).2 = []
  · rw [if_pos hf]
    have hF := readN_fine ws hf
    have hz := h3 hf
    unfold finishN
    by_cases hs : (readN ws).1.sized = false
    · rw [if_pos hs]
      exact .inr (.inr ⟨_, _, rfl, h0, by omega, req_may hF (by rw [h1.val]; decide)⟩)
    · rw [if_neg hs]
      by_cases hb : (bodyN rest (readN ws).1.size).2.2 = 3
      · rw [if_pos hb]
        exact .inl rfl
      · rw [if_neg hb]
        obtain ⟨b1, b2, b3⟩ := body_in rest ⟨h1.size, hz⟩ hb
        by_cases hc : (bodyN rest (readN ws).1.size).2.2 = 2
        · rw [if_pos hc]
          exact .inr (.inl ⟨t_chunk, used + (bodyN rest (readN ws).1.size).2.1, 0, true, rfl, by decide, by decide, by omega, by omega, Int.le_refl _⟩)
        · rw [if_neg hc]
          exact .inr (.inr ⟨_, _, rfl, by omega, by omega, req_may (d := { (readN ws).1 with val := (bodyN rest (readN ws).1.size).1 }) ⟨⟨hF.good.keys, hF.good.few, hF.good.exp⟩, hF.op, hF.key⟩ b3⟩)
  · rw [if_neg hf]
    refine .inr (.inl ⟨(readN ws).2, used, skipN (readN ws).1, false, rfl, List.length_pos_iff.2 hf, h2.len, h0, by omega, ?_⟩)
    have hz := h1.size
    unfold skipN
    split
    · omega
    · exact Int.le_refl _
theorem sane_ways (l : List UInt8) : SaneS (parseN l) (l.length : Int) := by
  unfold parseN
  rcases line_in l with h | ⟨h, h1, h2⟩
  · rw [if_pos h]
    exact .inl rfl
  · rcases h with h | h
    · rw [if_neg (by omega), if_pos h]
      exact .inr (.inl ⟨t_long, _, _, _, rfl, by decide, by decide, h1, h2, Int.le_refl _⟩)
    · rw [if_neg (by omega), if_neg (by omega)]
      refine lineS_sane _ _ _ _ h1 ?_
      rw [List.length_drop]
      omega
end Go.Proofs.YthofdmepofepgaaDoor
