/- What bytes tell as an answer of the binary dialect, as lists alone. Conditions: none. -/
import Derived.Test.YtaafkefgpgoepaaHeadB
namespace Go.Proofs.Ytaafkefgpgoepaa
set_option linter.unusedVariables false
open Go.RowKit

/-- An answer that is read. -/
structure Av where
  code : Int
  st : Int
  opq : Int
  cas : Int
  x : List UInt8
  key : List UInt8
  v : List UInt8
  used : Int
def noA : Av := ⟨0, 0, 0, 0, [], [], [], 0⟩
/-- Whether an answer is there, whole. -/
def readP (b : List UInt8) : Prop := 24 ≤ b.length ∧ ((b.getD 0 0).toNat : Int) = 129 ∧ getB b 8 4 < 1048576 ∧ 24 + getB b 8 4 ≤ (b.length : Int) ∧ by4 b + getB b 2 2 ≤ getB b 8 4
def readV (b : List UInt8) (x k v : Nat) : Av := ⟨by1 b, getB b 6 2, getB b 12 4, getB b 16 8, (b.drop 24).take x, (b.drop (24 + x)).take k, (b.drop (24 + x + k)).take v, 24 + ((x + k + v : Nat) : Int)⟩
/-- What bytes tell. -/
def ReadsA (b : List UInt8) (a : Av) : Prop := ¬ readP b ∧ a = noA ∨ readP b ∧ ∃ x k v : Nat, by4 b = x ∧ getB b 2 2 = k ∧ getB b 8 4 = ((x + k + v : Nat) : Int) ∧ a = readV b x k v
theorem reads_some (b : List UInt8) : ∃ a, ReadsA b a := by
  by_cases h : readP b
  · obtain ⟨h1, h2, h3, h4, h5⟩ := h
    have l0 := (numB_bd ((b.drop 8).take 4)).1
    have k0 := (numB_bd ((b.drop 2).take 2)).1
    have eL : getB b 8 4 = numB ((b.drop 8).take 4) := rfl
    have eK : getB b 2 2 = numB ((b.drop 2).take 2) := rfl
    rw [← eL] at l0
    rw [← eK] at k0
    have x0 : 0 ≤ by4 b := Int.natCast_nonneg _
    refine ⟨_, .inr ⟨⟨h1, h2, h3, h4, h5⟩, (by4 b).toNat, (getB b 2 2).toNat, (getB b 8 4 - by4 b - getB b 2 2).toNat, by omega, by omega, by omega, rfl⟩⟩
  · exact ⟨_, .inl ⟨h, rfl⟩⟩
theorem reads_one {b : List UInt8} {a a' : Av} (h : ReadsA b a) (h' : ReadsA b a') : a = a' := by
  rcases h with ⟨h1, rfl⟩ | ⟨h1, x, k, v, e1, e2, e3, rfl⟩
  · rcases h' with ⟨_, rfl⟩ | ⟨h2, _⟩
    · rfl
    · exact absurd h2 h1
  · rcases h' with ⟨h2, _⟩ | ⟨_, x', k', v', f1, f2, f3, rfl⟩
    · exact absurd h1 h2
    · obtain rfl : x = x' := by omega
      obtain rfl : k = k' := by omega
      obtain rfl : v = v' := by omega
      rfl
end Go.Proofs.Ytaafkefgpgoepaa
