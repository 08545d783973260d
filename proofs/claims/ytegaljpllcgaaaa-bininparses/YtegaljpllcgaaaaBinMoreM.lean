/- More bytes behind what is parsed of the binary dialect; fewer of them. Conditions: none. -/
import Derived.Test.YtegaljpllcgaaaaBinSaneM
import Derived.Test.YtegaljpllcgaaaaG21Joined
namespace Go.Proofs.Ytegaljpllcgaaaa
set_option linter.unusedVariables false
open Go.RowKit

theorem cut_more {b m : List UInt8} {i n : Nat} (h : i + n ≤ b.length) : ((b ++ m).drop i).take n = (b.drop i).take n := by
  rw [List.drop_append_of_le_length (by omega), List.take_append_of_le_length (by rw [List.length_drop]; omega)]
theorem getD_more {b m : List UInt8} {i : Nat} (h : i < b.length) : (b ++ m).getD i 0 = b.getD i 0 := by
  rw [List.getD_eq_getElem?_getD, List.getD_eq_getElem?_getD, List.getElem?_append_left h]
theorem cut_less {b : List UInt8} {i n c : Nat} (h : i + n ≤ c) : ((b.take c).drop i).take n = (b.drop i).take n := by
  rw [List.drop_take, List.take_take, Nat.min_eq_left (by omega)]
theorem getD_less {b : List UInt8} {i c : Nat} (h : i < c) : (b.take c).getD i 0 = b.getD i 0 := by
  rw [List.getD_eq_getElem?_getD, List.getD_eq_getElem?_getD, List.getElem?_take_of_lt h]
theorem meas_whole {b : List UInt8} {l : Nat} (h : WholeB b l) : measN b = (24 + (l : Int), 0) := by
  have h1 := h.fit
  have h2 := h.few
  unfold measN
  rw [if_neg (by omega), if_neg (by rw [h.first]; decide), if_neg (by omega), h.body, if_neg (by omega), if_neg (by omega)]
theorem parse_whole {b : List UInt8} {l : Nat} (h : WholeB b l) : parse16 b = if stB b ≠ 0 then faultB (by1 b) (stB b) (getB b 12 4) (24 + (l : Int)) else reqB (by1 b) (getB b 12 4) b (by4 b).toNat (getB b 2 2).toNat ((l : Int) - by4 b - getB b 2 2).toNat := by
  unfold parse16
  rw [meas_whole h, if_neg (by simp), h.body]
theorem reqB_more {c o : Int} {b m : List UInt8} {x k v : Nat} (h : 24 + x + k + v ≤ b.length) : reqB c o (b ++ m) x k v = reqB c o b x k v := by
  unfold reqB cmdQ getB
  rw [cut_more (by omega), cut_more (by omega), cut_more (by omega), cut_more (by omega)]
theorem more16 (b m : List UInt8) : parse16 b = bareB 3 ∨ (parse16 b).e ≠ 3 ∧ parse16 (b ++ m) = parse16 b ∧ ((parse16 b).e = 9 ∨ ∃ l, WholeB b l ∧ (parse16 b).used = 24 + (l : Int) ∧ ((parse16 b).e = 2 ∨ (parse16 b).e = 0)) := by
  rcases meas_cases b with e | e | ⟨e, h24, h128, hL, hfit⟩
  · left
    unfold parse16
    rw [e, if_pos (by decide)]
  · right
    have hp : parse16 b = bareB 9 := by
      unfold parse16
      rw [e, if_pos (by decide)]
    have h0 : 0 < b.length := by
      apply Nat.pos_of_ne_zero
      intro h
      unfold measN at e
      rw [if_pos h] at e
      simp at e
    have hm : measN (b ++ m) = (0, 9) := by
      unfold measN at e ⊢
      rw [if_neg (by omega)] at e
      rw [if_neg (by rw [List.length_append]; omega), getD_more h0]
      by_cases h1 : ((b.getD 0 0).toNat : Int) ≠ 128
      · rw [if_pos h1]
      · rw [if_neg h1] at e ⊢
        by_cases h2 : b.length < 24
        · rw [if_pos h2] at e
          simp at e
        · rw [if_neg h2] at e
          rw [if_neg (by rw [List.length_append]; omega)]
          have hg : getB (b ++ m) 8 4 = getB b 8 4 := by unfold getB; rw [cut_more (by omega)]
          rw [hg]
          by_cases h3 : 2048 < getB b 8 4
          · rw [if_pos h3]
          · rw [if_neg h3] at e
            split at e <;> simp at e
    rw [hp]
    refine ⟨by show (9 : Int) ≠ 3; decide, ?_, .inl rfl⟩
    unfold parse16
    rw [hm, if_pos (by decide)]
  · right
    have l0 := (numB_bd ((b.drop 8).take 4)).1
    have k0 := (numB_bd ((b.drop 2).take 2)).1
    have eL : getB b 8 4 = numB ((b.drop 8).take 4) := rfl
    have eK : getB b 2 2 = numB ((b.drop 2).take 2) := rfl
    rw [← eL] at l0
    rw [← eK] at k0
    obtain ⟨l, hl_⟩ : ∃ l : Nat, getB b 8 4 = (l : Int) := ⟨(getB b 8 4).toNat, by omega⟩
    have hw : WholeB b l := ⟨h128, hl_, by omega, by omega⟩
    have hb : ∀ i n, i + n ≤ 24 → getB (b ++ m) i n = getB b i n := fun i n h => by unfold getB; rw [cut_more (by omega)]
    have e1 : by1 (b ++ m) = by1 b := by unfold by1; rw [getD_more (by omega)]
    have e4 : by4 (b ++ m) = by4 b := by unfold by4; rw [getD_more (by omega)]
    have es : stB (b ++ m) = stB b := by unfold stB; rw [e1, e4, hb 2 2 (by decide), hb 8 4 (by decide)]
    have hw2 : WholeB (b ++ m) l := ⟨by rw [getD_more (by omega)]; exact h128, by rw [hb 8 4 (by decide)]; exact hl_, hw.few, by rw [List.length_append]; have := hw.fit; omega⟩
    have hp := parse_whole hw
    have hp2 := parse_whole hw2
    rw [es, e1, e4, hb 2 2 (by decide), hb 12 4 (by decide)] at hp2
    by_cases hst : stB b = 0
    · obtain ⟨k, hk_⟩ : ∃ k : Nat, getB b 2 2 = (k : Int) := ⟨(getB b 2 2).toNat, by omega⟩
      obtain ⟨x, hx_⟩ : ∃ x : Nat, by4 b = (x : Int) := ⟨(b.getD 4 0).toNat, rfl⟩
      have hs : stB b = statusN (ofN (by1 b)) x k l := by unfold stB; rw [hx_, hk_, hl_]
      have F := (fine_of (r := ofN (by1 b)) (x := (x : Int)) (k := (k : Int)) (l := (l : Int)) (by omega) (by rw [← hs]; exact hst)).fit
      rw [if_neg (by simpa using hst), hx_, hk_] at hp hp2
      have hf := hw.fit
      rw [reqB_more (by omega)] at hp2
      refine ⟨?_, by rw [hp, hp2], .inr ⟨l, hw, ?_, .inr (by rw [hp]; rfl)⟩⟩
      · rw [hp]
        show (0 : Int) ≠ 3
        decide
      · rw [hp]
        show 24 + (((x : Int).toNat + (k : Int).toNat + ((l : Int) - x - k).toNat : Nat) : Int) = _
        omega
    · rw [if_pos hst] at hp hp2
      refine ⟨?_, by rw [hp, hp2], .inr ⟨l, hw, by rw [hp]; rfl, .inl (by rw [hp]; rfl)⟩⟩
      rw [hp]
      show (2 : Int) ≠ 3
      decide
theorem cut16 {b : List UInt8} {l c : Nat} (h : WholeB b l) (hc : c < 24 + l) : parse16 (b.take c) = bareB 3 := by
  have hf := h.fit
  have hm : measN (b.take c) = (0, 3) := by
    have hl : (b.take c).length = c := by rw [List.length_take]; omega
    unfold measN
    rw [hl]
    by_cases h0 : c = 0
    · rw [if_pos h0]
    · rw [if_neg h0, getD_less (by omega), h.first, if_neg (by decide)]
      by_cases h1 : c < 24
      · rw [if_pos h1]
      · have hg : getB (b.take c) 8 4 = getB b 8 4 := by unfold getB; rw [cut_less (by omega)]
        rw [if_neg h1, hg, h.body, if_neg (by have := h.few; omega), if_pos (by omega)]
  unfold parse16
  rw [hm, if_pos (by decide)]
theorem few16 (b : List UInt8) : Few1 (parse16 b).req ∧ ((parse16 b).req = noQ ∨ 0 < (parse16 b).req.cmds.length) := by
  have hn : Few1 noQ := ⟨by decide, by decide, by decide⟩
  rcases ways16 b with h | ⟨h, _⟩ | ⟨l, _, ⟨_, h⟩ | ⟨x, k, v, ha⟩⟩
  · rw [h]; exact ⟨hn, .inl rfl⟩
  · rw [h]; exact ⟨hn, .inl rfl⟩
  · rw [h]; exact ⟨hn, .inl rfl⟩
  · rw [ha.par]
    refine ⟨⟨by show (1 : Nat) ≤ _; decide, ?_, by show (0 : Nat) ≤ _; decide⟩, .inr (by show (0 : Nat) < 1; decide)⟩
    show (if k = 0 then [] else [_]).length ≤ 1000000
    split
    · exact Nat.zero_le _
    · show (1 : Nat) ≤ _
      decide
end Go.Proofs.Ytegaljpllcgaaaa
