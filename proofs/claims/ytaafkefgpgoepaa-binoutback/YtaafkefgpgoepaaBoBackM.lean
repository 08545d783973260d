/- What is read of an answer that was put together of its parts, with more behind it. Conditions: as many bytes as the numbers of a head can tell, fewer than 2^20 in all. -/
import Derived.Test.YtaafkefgpgoepaaBoM
import Derived.Test.YtaafkefgpgoepaaBoRM
import Derived.Test.YtaafkefgpgoepaaNumBe
namespace Go.Proofs.Ytaafkefgpgoepaa
set_option linter.unusedVariables false
open Go.RowKit

theorem packA_len (c opq st cas : Int) (x key v : List UInt8) : (packA c opq st cas x key v).length = 24 + (x.length + key.length + v.length) := by
  unfold packA
  simp only [List.length_append, byL_be_len, List.length_cons, List.length_nil]
  omega
theorem pack_reads {c opq st cas : Int} {x key v more : List UInt8} (hx : x.length ≤ 255) (hk : key.length < 65536) (hl : x.length + key.length + v.length < 1048576) (hs0 : 0 ≤ st) (hs1 : st < 65536) (hc0 : 0 ≤ cas) (hc1 : cas < 18446744073709551616) (ho0 : 0 ≤ opq) (ho1 : opq < 4294967296) :
    ReadsA (packA c opq st cas x key v ++ more) ⟨c % 256, st, opq, cas, x, key, v, 24 + ((x.length + key.length + v.length : Nat) : Int)⟩ := by
  have n2 := numB_two_be hk
  have n3 := numB_two_be (n := st.toNat) (by omega)
  have n4 := numB_four_be (n := x.length + key.length + v.length) (by omega)
  have n5 := numB_four_be (n := opq.toNat) (by omega)
  have n8 := numB_eight_be (n := cas.toNat) (by omega)
  obtain ⟨a1, a0, ha⟩ := two_of_ (byL_be_len key.length 2)
  obtain ⟨s1, s0, hs⟩ := two_of_ (byL_be_len st.toNat 2)
  obtain ⟨b3, b2, b1, b0, hb⟩ := four_of (byL_be_len (x.length + key.length + v.length) 4)
  obtain ⟨c3, c2, c1, c0, hcc⟩ := four_of (byL_be_len opq.toNat 4)
  obtain ⟨d7, d6, d5, d4, d3, d2, d1, d0, hd⟩ := eight_of (byL_be_len cas.toNat 8)
  have hu : (((UInt8.ofNat x.length).toNat : Nat) : Int) = (x.length : Int) := by rw [UInt8.toNat_ofNat']; omega
  have hp : (((UInt8.ofNat (c % 256).toNat).toNat : Nat) : Int) = c % 256 := u8_back (by omega) (by omega)
  have hlen0 := packA_len c opq st cas x key v
  generalize hpp : UInt8.ofNat (c % 256).toNat = p at hp
  have e : packA c opq st cas x key v ++ more = [129, p, a1, a0, UInt8.ofNat x.length, 0, s1, s0, b3, b2, b1, b0, c3, c2, c1, c0, d7, d6, d5, d4, d3, d2, d1, d0] ++ (x ++ (key ++ (v ++ more))) := by
    unfold packA
    rw [ha, hb, hcc, hd, hs, hpp]
    simp
  rw [ha] at n2
  rw [hs] at n3
  rw [hb] at n4
  rw [hcc] at n5
  rw [hd] at n8
  have hlenT : (packA c opq st cas x key v ++ more).length = 24 + (x.length + key.length + v.length) + more.length := by rw [List.length_append, hlen0]
  rw [e] at hlenT
  generalize hH : [129, p, a1, a0, UInt8.ofNat x.length, 0, s1, s0, b3, b2, b1, b0, c3, c2, c1, c0, d7, d6, d5, d4, d3, d2, d1, d0] = H at e hlenT
  have hlen : H.length = 24 := by rw [← hH]; rfl
  have d24 : ∀ i, (H ++ (x ++ (key ++ (v ++ more)))).drop (24 + i) = (x ++ (key ++ (v ++ more))).drop i := fun i => by rw [← hlen, List.drop_append]; simp
  rw [e]
  have h0 : (((H ++ (x ++ (key ++ (v ++ more)))).getD 0 0).toNat : Int) = 129 := by rw [← hH]; rfl
  have hcode : by1 (H ++ (x ++ (key ++ (v ++ more)))) = c % 256 := by rw [← hH]; exact hp
  have hext : by4 (H ++ (x ++ (key ++ (v ++ more)))) = (x.length : Int) := by rw [← hH]; exact hu
  have hkey : getB (H ++ (x ++ (key ++ (v ++ more)))) 2 2 = (key.length : Int) := by rw [← hH]; exact n2
  have hst : getB (H ++ (x ++ (key ++ (v ++ more)))) 6 2 = st := by rw [← hH]; exact n3.trans (by omega)
  have hbody : getB (H ++ (x ++ (key ++ (v ++ more)))) 8 4 = ((x.length + key.length + v.length : Nat) : Int) := by rw [← hH]; exact n4
  have hopq : getB (H ++ (x ++ (key ++ (v ++ more)))) 12 4 = opq := by rw [← hH]; exact n5.trans (by omega)
  have hcas : getB (H ++ (x ++ (key ++ (v ++ more)))) 16 8 = cas := by rw [← hH]; exact n8.trans (by omega)
  have p1 : ((H ++ (x ++ (key ++ (v ++ more)))).drop 24).take x.length = x := by
    have := d24 0
    rw [Nat.add_zero] at this
    rw [this, List.drop_zero, List.take_left']
    rfl
  have p2 : ((H ++ (x ++ (key ++ (v ++ more)))).drop (24 + x.length)).take key.length = key := by
    rw [d24, List.drop_left, List.take_left']
    rfl
  have p3 : ((H ++ (x ++ (key ++ (v ++ more)))).drop (24 + x.length + key.length)).take v.length = v := by
    rw [Nat.add_assoc, d24, ← List.drop_drop, List.drop_left, List.drop_left, List.take_left']
    rfl
  refine .inr ⟨⟨by rw [hlenT]; omega, h0, by rw [hbody]; omega, by rw [hbody, hlenT]; omega, by rw [hbody, hext, hkey]; omega⟩, x.length, key.length, v.length, hext, hkey, hbody, ?_⟩
  unfold readV
  rw [hcode, hst, hopq, hcas, p1, p2, p3]
end Go.Proofs.Ytaafkefgpgoepaa
