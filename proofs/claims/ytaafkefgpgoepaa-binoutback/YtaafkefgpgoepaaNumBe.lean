/- Numbers out of their bytes. Conditions: none. -/
import Derived.Test.YtaafkefgpgoepaaRowApp
import Derived.Test.YtaafkefgpgoepaaBinM
namespace Go.Proofs.Ytaafkefgpgoepaa
set_option linter.unusedVariables false
open Go.RowKit

theorem u8_back {z : Int} (h0 : 0 ≤ z) (h1 : z < 256) : (((UInt8.ofNat z.toNat).toNat : Nat) : Int) = z := by
  rw [UInt8.toNat_ofNat']
  omega
theorem numB_byL : ∀ (zs : List Int) (a : Int), Byt zs → (byL zs).foldl (fun a c => (a * 256 + (c.toNat : Int)) % 18446744073709551616) a = zs.foldl (fun a z => (a * 256 + z) % 18446744073709551616) a
  | [], _, _ => rfl
  | z :: zs, a, h => by
    have hz := h z (by simp)
    show (byL zs).foldl _ ((a * 256 + ((UInt8.ofNat z.toNat).toNat : Int)) % 18446744073709551616) = _
    rw [u8_back hz.1 (by omega)]
    exact numB_byL zs _ fun y hy => h y (by simp [hy])
theorem numB_two_be {n : Nat} (h : n < 65536) : numB (byL (be n 2)) = (n : Int) := by
  unfold numB
  rw [numB_byL _ _ (be_byt _ _)]
  simp [be, List.range_succ]
  omega
theorem numB_four_be {n : Nat} (h : n < 4294967296) : numB (byL (be n 4)) = (n : Int) := by
  unfold numB
  rw [numB_byL _ _ (be_byt _ _)]
  simp [be, List.range_succ]
  omega
theorem numB_eight_be {n : Nat} (h : n < 18446744073709551616) : numB (byL (be n 8)) = (n : Int) := by
  unfold numB
  rw [numB_byL _ _ (be_byt _ _)]
  simp [be, List.range_succ]
  omega
theorem byL_be_len (n s : Nat) : (byL (be n s)).length = s := by simp [byL, be]
theorem four_of {l : List UInt8} (h : l.length = 4) : ∃ a b c d, l = [a, b, c, d] := by
  match l, h with
  | [a, b, c, d], _ => exact ⟨a, b, c, d, rfl⟩
theorem two_of_ {l : List UInt8} (h : l.length = 2) : ∃ a b, l = [a, b] := by
  match l, h with
  | [a, b], _ => exact ⟨a, b, rfl⟩
theorem eight_of {l : List UInt8} (h : l.length = 8) : ∃ a b c d e f g i, l = [a, b, c, d, e, f, g, i] := by
  match l, h with
  | [a, b, c, d, e, f, g, i], _ => exact ⟨a, b, c, d, e, f, g, i, rfl⟩
end Go.Proofs.Ytaafkefgpgoepaa
