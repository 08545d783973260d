/- What is parsed of a request that was put together of its parts. Conditions: as many bytes as the numbers of a head can tell. -/
import Derived.Test.YtegaljpllcgaaaaBinPack
namespace Go.Proofs.Ytegaljpllcgaaaa
set_option linter.unusedVariables false
open Go.RowKit

theorem u8_back {z : Int} (h0 : 0 ≤ z) (h1 : z < 256) : (((UInt8.ofNat z.toNat).toNat : Nat) : Int) = z := by
  rw [UInt8.toNat_ofNat']
  omega
theorem numB_byL : ∀ (zs : List Int) (a : Int), Byt zs → (byL zs).foldl (fun a c => (a * 256 + (c.toNat : Int)) % 18446744073709551616) a = zs.foldl (fun a z => (a * 256 + z) % 18446744073709551616) a
  | [], _, _ => rfl
  | z :: zs, a, h => by
    have hz := h z (by simp)
    show (byL zs).foldl _ ((a * 256 + ((UInt8.ofNat z.toNat).toNat : Int)) % 18446744073709551616) = _
    rw [u8_back hz.1 (by omega)]
    exact numB_byL zs _ fun y hy => h y (by simp [hy])
theorem numB_two_be {n : Nat} (h : n < 65536) : numB (byL (be n 2)) = (n : Int) := by
  unfold numB
  rw [numB_byL _ _ (be_byt _ _)]
  simp [be, List.range_succ]
  omega
theorem numB_four_be {n : Nat} (h : n < 4294967296) : numB (byL (be n 4)) = (n : Int) := by
  unfold numB
  rw [numB_byL _ _ (be_byt _ _)]
  simp [be, List.range_succ]
  omega
theorem numB_eight_be {n : Nat} (h : n < 18446744073709551616) : numB (byL (be n 8)) = (n : Int) := by
  unfold numB
  rw [numB_byL _ _ (be_byt _ _)]
  simp [be, List.range_succ]
  omega
theorem byL_be_len (n s : Nat) : (byL (be n s)).length = s := by simp [byL, be]
/-- What the bytes of a request tell. -/
structure PackIs (b : List UInt8) (p : UInt8) (x key v : List UInt8) (cas opq : Nat) : Prop where
  len : b.length = 24 + (x.length + key.length + v.length)
  first : ((b.getD 0 0).toNat : Int) = 128
  code : by1 b = (p.toNat : Int)
  ext : by4 b = (x.length : Int)
  keyl : getB b 2 2 = (key.length : Int)
  body : getB b 8 4 = ((x.length + key.length + v.length : Nat) : Int)
  opq : getB b 12 4 = (opq : Int)
  cas : getB b 16 8 = (cas : Int)
  x_ : (b.drop 24).take x.length = x
  key_ : (b.drop (24 + x.length)).take key.length = key
  v_ : (b.drop (24 + x.length + key.length)).take v.length = v
theorem four_of {l : List UInt8} (h : l.length = 4) : ∃ a b c d, l = [a, b, c, d] := by
  match l, h with
  | [a, b, c, d], _ => exact ⟨a, b, c, d, rfl⟩
theorem two_of_ {l : List UInt8} (h : l.length = 2) : ∃ a b, l = [a, b] := by
  match l, h with
  | [a, b], _ => exact ⟨a, b, rfl⟩
theorem eight_of {l : List UInt8} (h : l.length = 8) : ∃ a b c d e f g i, l = [a, b, c, d, e, f, g, i] := by
  match l, h with
  | [a, b, c, d, e, f, g, i], _ => exact ⟨a, b, c, d, e, f, g, i, rfl⟩
theorem pack_is {p : UInt8} {x key v : List UInt8} {cas opq : Nat} (hx : x.length ≤ 255) (hk : key.length < 65536) (hl : x.length + key.length + v.length < 4294967296) (hc : cas < 18446744073709551616) (ho : opq < 4294967296) : PackIs (packL p x key v cas opq) p x key v cas opq := by
  have n2 := numB_two_be hk
  have n4 := numB_four_be hl
  have n5 := numB_four_be ho
  have n8 := numB_eight_be hc
  obtain ⟨a1, a0, ha⟩ := two_of_ (byL_be_len key.length 2)
  obtain ⟨b3, b2, b1, b0, hb⟩ := four_of (byL_be_len (x.length + key.length + v.length) 4)
  obtain ⟨c3, c2, c1, c0, hcc⟩ := four_of (byL_be_len opq 4)
  obtain ⟨d7, d6, d5, d4, d3, d2, d1, d0, hd⟩ := eight_of (byL_be_len cas 8)
  have hu : (((UInt8.ofNat x.length).toNat : Nat) : Int) = (x.length : Int) := by rw [UInt8.toNat_ofNat']; omega
  have e : packL p x key v cas opq = [128, p, a1, a0, UInt8.ofNat x.length, 0, 0, 0, b3, b2, b1, b0, c3, c2, c1, c0, d7, d6, d5, d4, d3, d2, d1, d0] ++ (x ++ (key ++ v)) := by
    unfold packL
    rw [ha, hb, hcc, hd]
    simp
  rw [ha] at n2
  rw [hb] at n4
  rw [hcc] at n5
  rw [hd] at n8
  generalize hH : [128, p, a1, a0, UInt8.ofNat x.length, 0, 0, 0, b3, b2, b1, b0, c3, c2, c1, c0, d7, d6, d5, d4, d3, d2, d1, d0] = H at e
  have hlen : H.length = 24 := by rw [← hH]; rfl
  have d24 : ∀ i, (H ++ (x ++ (key ++ v))).drop (24 + i) = (x ++ (key ++ v)).drop i := fun i => by rw [← hlen, List.drop_append]; simp
  rw [e]
  refine ⟨by simp only [List.length_append, hlen]; omega, ?_, ?_, ?_, ?_, ?_, ?_, ?_, ?_, ?_, ?_⟩
  · rw [← hH]; rfl
  · rw [← hH]; rfl
  · rw [← hH]; exact hu
  · rw [← hH]; exact n2
  · rw [← hH]; exact n4
  · rw [← hH]; exact n5
  · rw [← hH]; exact n8
  · have := d24 0
    rw [Nat.add_zero] at this
    rw [this, List.drop_zero, List.take_left']
    rfl
  · rw [d24, List.drop_left, List.take_left']
    rfl
  · rw [Nat.add_assoc, d24, ← List.drop_drop, List.drop_left, List.drop_left, List.take_of_length_le (Nat.le_refl _)]
/-- What is parsed of it. -/
theorem parse_pack {b : List UInt8} {p : UInt8} {x key v : List UInt8} {cas opq : Nat} (h : PackIs b p x key v cas opq) (hl : x.length + key.length + v.length ≤ 2048) :
    parse16 b = if statusN (ofN (p.toNat : Int)) x.length key.length ((x.length + key.length + v.length : Nat) : Int) ≠ 0 then faultB (p.toNat : Int) (statusN (ofN (p.toNat : Int)) x.length key.length ((x.length + key.length + v.length : Nat) : Int)) opq (24 + ((x.length + key.length + v.length : Nat) : Int))
      else ⟨⟨[{ cmdB (ofN (p.toNat : Int)) x with cas := (cas : Int), key := ⟨key.toArray⟩, val := if (ofN (p.toNat : Int)).val then v else [] }], formQ (p.toNat : Int) opq (ofN (p.toNat : Int)).quiet ⟨key.toArray⟩ key.length⟩, ⟨#[]⟩, 24 + ((x.length + key.length + v.length : Nat) : Int), 0, false, 0⟩ := by
  have hw : WholeB b (x.length + key.length + v.length) := ⟨h.first, h.body, hl, by rw [h.len]; exact Nat.le_refl _⟩
  have hs : stB b = statusN (ofN (p.toNat : Int)) x.length key.length ((x.length + key.length + v.length : Nat) : Int) := by unfold stB; rw [h.code, h.ext, h.keyl, h.body]
  rw [parse_whole hw, hs, h.code, h.opq, h.ext, h.keyl]
  by_cases hst : statusN (ofN (p.toNat : Int)) x.length key.length ((x.length + key.length + v.length : Nat) : Int) ≠ 0
  · rw [if_pos hst, if_pos hst]
  · rw [if_neg hst, if_neg hst]
    have e1 : ((x.length : Nat) : Int).toNat = x.length := Int.toNat_natCast _
    have e2 : ((key.length : Nat) : Int).toNat = key.length := Int.toNat_natCast _
    have e3 : ((((x.length + key.length + v.length : Nat) : Int) - (x.length : Int) - (key.length : Int)).toNat) = v.length := by omega
    rw [e1, e2, e3]
    unfold reqB cmdQ
    rw [h.x_, h.key_, h.v_, h.cas]
end Go.Proofs.Ytegaljpllcgaaaa
