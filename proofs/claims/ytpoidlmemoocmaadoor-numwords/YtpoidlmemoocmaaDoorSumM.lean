/- Plain facts of sums that wrap at 64 bits: what was added one by one and then taken away one by one leaves nothing. Conditions: none. -/
import Derived.WalkKit
import Derived.Test.YtpoidlmemoocmaaDoorRows
namespace Go.Proofs.YtpoidlmemoocmaaDoor
open Go.RowKit

def sumW (xs : List ByteArray) : Int := xs.foldl (fun a x => wrap64 (a + x.size)) 0
def subW (t : Int) (xs : List ByteArray) : Int := xs.foldl (fun a x => wrap64 (a - x.size)) t
theorem sumW_snoc (xs : List ByteArray) (x : ByteArray) : sumW (xs ++ [x]) = wrap64 (sumW xs + x.size) := by simp [sumW]
theorem subW_snoc (t : Int) (xs : List ByteArray) (x : ByteArray) : subW t (xs ++ [x]) = wrap64 (subW t xs - x.size) := by simp [subW]
def total (xs : List ByteArray) : Int := xs.foldr (fun x a => (x.size : Int) + a) 0
theorem wrap_mod (y : Int) : wrap64 y % 18446744073709551616 = y % 18446744073709551616 := by unfold wrap64; omega
theorem wrap_bd (y : Int) : -9223372036854775808 ≤ wrap64 y ∧ wrap64 y ≤ 9223372036854775807 := by unfold wrap64; omega
theorem add_mod : ∀ (xs : List ByteArray) (a : Int), (xs.foldl (fun a x => wrap64 (a + x.size)) a) % 18446744073709551616 = (a + total xs) % 18446744073709551616
  | [], a => by simp [total]
  | x :: xs, a => by
    rw [List.foldl_cons, add_mod xs]
    have h := wrap_mod (a + x.size)
    have e : total (x :: xs) = x.size + total xs := rfl
    rw [e]
    omega
theorem sub_mod : ∀ (xs : List ByteArray) (a : Int), (xs.foldl (fun a x => wrap64 (a - x.size)) a) % 18446744073709551616 = (a - total xs) % 18446744073709551616
  | [], a => by simp [total]
  | x :: xs, a => by
    rw [List.foldl_cons, sub_mod xs]
    have h := wrap_mod (a - x.size)
    have e : total (x :: xs) = x.size + total xs := rfl
    rw [e]
    omega
theorem sub_bd : ∀ (xs : List ByteArray) (a : Int), (-9223372036854775808 ≤ a ∧ a ≤ 9223372036854775807) → -9223372036854775808 ≤ xs.foldl (fun a x => wrap64 (a - x.size)) a ∧ xs.foldl (fun a x => wrap64 (a - x.size)) a ≤ 9223372036854775807
  | [], _, h => h
  | _ :: xs, _, _ => sub_bd xs _ (wrap_bd _)
theorem add_bd : ∀ (xs : List ByteArray) (a : Int), (-9223372036854775808 ≤ a ∧ a ≤ 9223372036854775807) → -9223372036854775808 ≤ xs.foldl (fun a x => wrap64 (a + x.size)) a ∧ xs.foldl (fun a x => wrap64 (a + x.size)) a ≤ 9223372036854775807
  | [], _, h => h
  | _ :: xs, _, _ => add_bd xs _ (wrap_bd _)
theorem sub_sum (xs : List ByteArray) : subW (sumW xs) xs = 0 := by
  have h1 := add_mod xs 0
  have h2 := sub_mod xs (sumW xs)
  have h3 := sub_bd xs (sumW xs) (add_bd xs 0 (by omega))
  unfold subW
  unfold sumW at h2 h3 ⊢
  omega
end Go.Proofs.YtpoidlmemoocmaaDoor
