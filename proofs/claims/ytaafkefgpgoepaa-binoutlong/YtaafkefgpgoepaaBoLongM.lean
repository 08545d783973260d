/- What the head of an answer tells of its length. Conditions: fewer bytes than the numbers of a head can tell. -/
import Derived.Test.YtaafkefgpgoepaaBoBackM
namespace Go.Proofs.Ytaafkefgpgoepaa
set_option linter.unusedVariables false
open Go.RowKit

/-- What the bytes of a head add up to. -/
structure LongF (l : List UInt8) (X K N : Nat) : Prop where
  len : l.length = 24 + N
  b0 : ((l.getD 0 0).toNat : Int) = 129
  b4 : (l.getD 4 0).toNat = X
  k : (l.getD 2 0).toNat * 256 + (l.getD 3 0).toNat = K
  n : (l.getD 8 0).toNat * 16777216 + (l.getD 9 0).toNat * 65536 + (l.getD 10 0).toNat * 256 + (l.getD 11 0).toNat = N
theorem numB2 (a b : UInt8) : numB [a, b] = ((a.toNat * 256 + b.toNat : Nat) : Int) := by
  have := a.toNat_lt
  have := b.toNat_lt
  simp only [numB, List.foldl_cons, List.foldl_nil]
  omega
theorem numB4 (a b c d : UInt8) : numB [a, b, c, d] = ((a.toNat * 16777216 + b.toNat * 65536 + c.toNat * 256 + d.toNat : Nat) : Int) := by
  have := a.toNat_lt
  have := b.toNat_lt
  have := c.toNat_lt
  have := d.toNat_lt
  simp only [numB, List.foldl_cons, List.foldl_nil]
  omega
theorem packA_long {c opq st cas : Int} {x key v : List UInt8} (hx : x.length ≤ 255) (hk : key.length < 65536) (hl : x.length + key.length + v.length < 4294967296) : LongF (packA c opq st cas x key v) x.length key.length (x.length + key.length + v.length) := by
  have n2 := numB_two_be hk
  have n4 := numB_four_be hl
  obtain ⟨a1, a0, ha⟩ := two_of_ (byL_be_len key.length 2)
  obtain ⟨s1, s0, hs⟩ := two_of_ (byL_be_len st.toNat 2)
  obtain ⟨b3, b2, b1, b0, hb⟩ := four_of (byL_be_len (x.length + key.length + v.length) 4)
  rw [ha, numB2] at n2
  rw [hb, numB4] at n4
  have e : packA c opq st cas x key v = [129, UInt8.ofNat (c % 256).toNat, a1, a0, UInt8.ofNat x.length, 0, s1, s0, b3, b2, b1, b0] ++ (byL (be opq.toNat 4) ++ (byL (be cas.toNat 8) ++ (x ++ (key ++ v)))) := by
    unfold packA
    rw [ha, hb, hs]
    simp
  refine ⟨packA_len _ _ _ _ _ _ _, ?_, ?_, ?_, ?_⟩
  · rw [e]; rfl
  · rw [e]
    show (UInt8.ofNat x.length).toNat = _
    rw [UInt8.toNat_ofNat']
    omega
  · rw [e]
    show a1.toNat * 256 + a0.toNat = _
    omega
  · rw [e]
    show b3.toNat * 16777216 + b2.toNat * 65536 + b1.toNat * 256 + b0.toNat = _
    omega
theorem keyA_len (c : Int) (key : ByteArray) (h : key.size ≤ 65535) : (keyA c key).data.toList.length = 0 ∨ (keyA c key).data.toList.length = key.size := by
  unfold keyA
  by_cases hc : c = 12 ∨ c = 13
  · rw [if_pos hc, if_neg (by omega)]
    exact .inr rfl
  · rw [if_neg hc]
    exact .inl rfl
theorem oneA_long {f : Fv} {c : Cv} {x : Rv} (h : hushA f.quiet c.op x.s = false) (hk : c.key.size ≤ 65535) (hv : x.val.length ≤ 100000) : ∃ X K N, LongF (oneA f c x) X K N ∧ (x.s = 0 ∧ X = 4 ∧ N = 4 + K + x.val.length ∧ (K = 0 ∨ K = c.key.size) ∨ x.s ≠ 0 ∧ X = 0 ∧ K = 0 ∧ N ≤ 8) := by
  unfold oneA
  rw [if_neg (by rw [h]; decide)]
  by_cases h0 : x.s = 0
  · have hl := keyA_len f.code c.key hk
    rw [if_pos h0]
    refine ⟨_, _, _, packA_long (by rw [byL_be_len]; decide) (by omega) (by rw [byL_be_len]; omega), .inl ⟨h0, byL_be_len _ _, by rw [byL_be_len], hl⟩⟩
  rw [if_neg h0]
  by_cases h7 : x.s = 7
  · rw [if_pos h7]
    exact ⟨_, _, _, packA_long (by decide) (by decide) (by rw [byL_be_len]; decide), .inr ⟨h0, rfl, rfl, by rw [byL_be_len]; decide⟩⟩
  rw [if_neg h7]
  by_cases h2 : x.s = 2
  · rw [if_pos h2]
    exact ⟨_, _, _, packA_long (by decide) (by decide) (by decide), .inr ⟨h0, rfl, rfl, by decide⟩⟩
  rw [if_neg h2]
  by_cases h11 : x.s = 11
  · rw [if_pos h11]
    exact ⟨_, _, _, packA_long (by decide) (by decide) (by decide), .inr ⟨h0, rfl, rfl, by decide⟩⟩
  rw [if_neg h11]
  exact ⟨_, _, _, packA_long (by decide) (by decide) (by decide), .inr ⟨h0, rfl, rfl, by decide⟩⟩
end Go.Proofs.Ytaafkefgpgoepaa
