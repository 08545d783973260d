/- A quiet code: the same request as the loud one, but that it is quiet. Conditions: none. -/
import Derived.Test.YtegaljpllcgaaaaBinMoreM
namespace Go.Proofs.Ytegaljpllcgaaaa
set_option linter.unusedVariables false
open Go.RowKit

/-- The row of a quiet code among the first ones. -/
theorem of_quiet {c : Int} (h1 : 1 ≤ c) (h8 : c ≤ 8) : ofN (c + 16) = { ofN c with quiet := true } ∧ (ofN c).quiet = false := by
  have hc : c = 1 ∨ c = 2 ∨ c = 3 ∨ c = 4 ∨ c = 5 ∨ c = 6 ∨ c = 7 ∨ c = 8 := by omega
  rcases hc with rfl | rfl | rfl | rfl | rfl | rfl | rfl | rfl <;> exact ⟨rfl, rfl⟩
section
variable {b : List UInt8} {v : UInt8}
theorem getB_set {i n : Nat} (h : 1 < i) : getB (b.set 1 v) i n = getB b i n := by
  unfold getB
  rw [List.drop_set_of_lt h]
theorem getD_set {i : Nat} (h : i ≠ 1) : (b.set 1 v).getD i 0 = b.getD i 0 := by
  rw [List.getD_eq_getElem?_getD, List.getD_eq_getElem?_getD, List.getElem?_set_ne (by omega)]
theorem by1_set (h : 1 < b.length) : by1 (b.set 1 v) = (v.toNat : Int) := by
  unfold by1
  rw [List.getD_eq_getElem?_getD, List.getElem?_set_self h]
  rfl
theorem meas_set : measN (b.set 1 v) = measN b := by
  unfold measN
  rw [List.length_set, getD_set (by decide), getB_set (by decide)]
theorem reqB_set {c o : Int} {x k n : Nat} : reqB c o (b.set 1 v) x k n = reqB c o b x k n := by
  unfold reqB cmdQ
  rw [getB_set (by decide), List.drop_set_of_lt (by omega), List.drop_set_of_lt (by omega), List.drop_set_of_lt (by omega)]
end
/-- The loud one's answer made quiet. -/
def hushS (s : Sv) : Sv := { s with req := { s.req with form := { s.req.form with quiet := true, code := s.req.form.code + 16 } } }
theorem cmdQ_quiet (r : R5) (b : List UInt8) (x k v : Nat) : cmdQ { r with quiet := true } b x k v = cmdQ r b x k v := rfl
theorem quiet16 {b : List UInt8} (hl : 24 ≤ b.length) {c : Int} (h1 : 1 ≤ c) (h8 : c ≤ 8) {p q : UInt8} (hp : (p.toNat : Int) = c) (hq : (q.toNat : Int) = c + 16) :
    (parse16 (b.set 1 p)).e = (parse16 (b.set 1 q)).e ∧ (parse16 (b.set 1 p)).used = (parse16 (b.set 1 q)).used ∧
      ((parse16 (b.set 1 p)).e ≠ 0 ∧ (parse16 (b.set 1 p)).reply.size = (parse16 (b.set 1 q)).reply.size ∨ (parse16 (b.set 1 p)).e = 0 ∧ (parse16 (b.set 1 p)).req.form.quiet = false ∧ (parse16 (b.set 1 p)).req.form.code = c ∧ parse16 (b.set 1 q) = hushS (parse16 (b.set 1 p))) := by
  obtain ⟨o1, o2⟩ := of_quiet h1 h8
  have e1 := by1_set (b := b) (v := p) (by omega)
  have e2 := by1_set (b := b) (v := q) (by omega)
  rw [hp] at e1
  rw [hq] at e2
  have e4 : ∀ v : UInt8, by4 (b.set 1 v) = by4 b := fun v => by unfold by4; rw [getD_set (by decide)]
  have s1 : stB (b.set 1 p) = statusN (ofN c) (by4 b) (getB b 2 2) (getB b 8 4) := by unfold stB; rw [e1, e4, getB_set (by decide), getB_set (by decide)]
  have s2 : stB (b.set 1 q) = statusN (ofN c) (by4 b) (getB b 2 2) (getB b 8 4) := by unfold stB; rw [e2, e4, getB_set (by decide), getB_set (by decide), o1]; rfl
  have P1 : parse16 (b.set 1 p) = if (measN b).2 ≠ 0 then bareB (measN b).2 else if statusN (ofN c) (by4 b) (getB b 2 2) (getB b 8 4) ≠ 0 then faultB c (statusN (ofN c) (by4 b) (getB b 2 2) (getB b 8 4)) (getB b 12 4) (24 + getB b 8 4) else reqB c (getB b 12 4) b (by4 b).toNat (getB b 2 2).toNat (getB b 8 4 - by4 b - getB b 2 2).toNat := by
    unfold parse16
    rw [meas_set, s1, e1, e4, getB_set (by decide), getB_set (by decide), getB_set (by decide), reqB_set]
  have P2 : parse16 (b.set 1 q) = if (measN b).2 ≠ 0 then bareB (measN b).2 else if statusN (ofN c) (by4 b) (getB b 2 2) (getB b 8 4) ≠ 0 then faultB (c + 16) (statusN (ofN c) (by4 b) (getB b 2 2) (getB b 8 4)) (getB b 12 4) (24 + getB b 8 4) else reqB (c + 16) (getB b 12 4) b (by4 b).toNat (getB b 2 2).toNat (getB b 8 4 - by4 b - getB b 2 2).toNat := by
    unfold parse16
    rw [meas_set, s2, e2, e4, getB_set (by decide), getB_set (by decide), getB_set (by decide), reqB_set]
  rw [P1, P2]
  by_cases hm : (measN b).2 ≠ 0
  · rw [if_pos hm, if_pos hm]
    exact ⟨rfl, rfl, .inl ⟨hm, rfl⟩⟩
  · rw [if_neg hm, if_neg hm]
    by_cases hs : statusN (ofN c) (by4 b) (getB b 2 2) (getB b 8 4) ≠ 0
    · rw [if_pos hs, if_pos hs]
      exact ⟨rfl, rfl, .inl ⟨by show (2 : Int) ≠ 0; decide, rfl⟩⟩
    · rw [if_neg hs, if_neg hs]
      refine ⟨rfl, rfl, .inr ⟨rfl, o2, rfl, ?_⟩⟩
      unfold reqB
      rw [o1]
      rfl
end Go.Proofs.Ytegaljpllcgaaaa
