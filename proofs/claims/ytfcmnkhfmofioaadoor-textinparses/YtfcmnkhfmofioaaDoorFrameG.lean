/- What package frame's Pass, Key and Keyed answer, as chapter 13 says. Conditions: none of the program's variables is read. -/
import Derived.Test.YtfcmnkhfmofioaaDoorG03Joined
namespace Go.Proofs.YtfcmnkhfmofioaaDoor
open Go.RowKit

/-- What Pass tells. -/
def passV (x : Int × Int × Bool) : Value := .tuple #[.int .i64 x.1, .int .i64 x.2.1, .bool x.2.2]
theorem passN_neg (l : List UInt8) {s : Int} (h : s < 0) (b : Bool) : passN l s b = passN l 0 b := by
  unfold passN
  simp only [if_pos h]
  rfl
theorem feedI_lt (l : List UInt8) : feedI l < l.length ∧ -1 ≤ feedI l := by
  rcases feeds l with hf | ⟨p, r, hl, hf⟩
  · rw [feedI_no hf]; omega
  · rw [hl, feedI_of hf, List.length_append, List.length_cons]; omega
theorem passN_nat {l : List UInt8} {len : Nat} (hn : l.length = len) (k : Nat) (b : Bool) : passN l k b = if len < k then ((len : Int), (k : Int) - len, b) else if b = false then ((k : Int), 0, false) else if feedI (l.drop k) < 0 then ((len : Int), 0, true) else ((k : Int) + feedI (l.drop k) + 1, 0, false) := by
  unfold passN
  rw [if_neg (by omega : ¬ (k : Int) < 0), hn]
  by_cases h1 : len < k
  · simp only [if_pos h1, if_pos (show (len : Int) < (k : Int) by omega)]
  · simp only [if_neg h1, if_neg (show ¬ (len : Int) < (k : Int) by omega), Int.toNat_natCast]
end Go.Proofs.YtfcmnkhfmofioaaDoor
