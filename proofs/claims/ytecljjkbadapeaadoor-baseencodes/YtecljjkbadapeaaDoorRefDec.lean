/- The document's own Decode (butteryref02): the same bytes of the text, or none. Conditions: the text has at most 100000 bytes. -/
import Derived.Test.YtecljjkbadapeaaDoorRefEnc
import Derived.Test.YtecljjkbadapeaaDoorDecW
namespace Go.Proofs.YtecljjkbadapeaaDoor
open Go.RowKit

/-- The number of a sign, nought where it is none. -/
def vz (c : UInt8) : Int := if ix c < 0 then 0 else ix c
def nn (l : List UInt8) : Int := l.foldl (fun a c => a * 64 + vz c) 0
def kk (l : List UInt8) : Nat := l.countP (fun c => 0 ≤ ix c)
/-- The bytes of four signs. -/
def part (l : List UInt8) : List Int := [nn l / 65536 % 256, nn l / 256 % 256, nn l % 256].take (kk l - 1)
def refD : List UInt8 → List Int → Option (List Int)
  | c1 :: c2 :: c3 :: c4 :: r, o => if kk [c1, c2, c3, c4] < 2 then none else refD r (o ++ part [c1, c2, c3, c4])
  | _, o => some o
def refFin (l : List UInt8) : Option (List Int) → Option (List Int)
  | none => none
  | some o => if encB o = l then some o else none
def refB (l : List UInt8) : Option (List Int) := if l.length % 4 ≠ 0 then none else refFin l (refD l [])

theorem vz_sg (n : Int) (h0 : 0 ≤ n) (h1 : n < 64) : vz (sg n) = n := by
  unfold vz
  rw [ix_sg n h0 h1, if_neg (by omega)]
theorem vz_fill : vz 61 = 0 := by decide +kernel
theorem kk_sg (n : Int) (h0 : 0 ≤ n) (h1 : n < 64) : decide (0 ≤ ix (sg n)) = true := by
  rw [ix_sg n h0 h1]; simpa using h0
theorem kk_fill : decide (0 ≤ ix 61) = false := by decide +kernel
theorem part_byt (l : List UInt8) : Byt (part l) := by
  intro z hz
  have := List.mem_of_mem_take hz
  simp only [List.mem_cons, List.not_mem_nil, or_false] at this
  omega
theorem part3 (a b c : Int) (ha : 0 ≤ a ∧ a ≤ 255) (hb : 0 ≤ b ∧ b ≤ 255) (hc : 0 ≤ c ∧ c ≤ 255) :
    kk [sg (a / 4), sg (a % 4 * 16 + b / 16), sg (b % 16 * 4 + c / 64), sg (c % 64)] = 4 ∧ part [sg (a / 4), sg (a % 4 * 16 + b / 16), sg (b % 16 * 4 + c / 64), sg (c % 64)] = [a, b, c] := by
  have hk : kk [sg (a / 4), sg (a % 4 * 16 + b / 16), sg (b % 16 * 4 + c / 64), sg (c % 64)] = 4 := by
    simp only [kk, List.countP_cons, List.countP_nil, kk_sg (a / 4) (by omega) (by omega), kk_sg (a % 4 * 16 + b / 16) (by omega) (by omega), kk_sg (b % 16 * 4 + c / 64) (by omega) (by omega), kk_sg (c % 64) (by omega) (by omega)]
    rfl
  refine ⟨hk, ?_⟩
  have hn : nn [sg (a / 4), sg (a % 4 * 16 + b / 16), sg (b % 16 * 4 + c / 64), sg (c % 64)] = a * 65536 + b * 256 + c := by
    simp only [nn, List.foldl_cons, List.foldl_nil, vz_sg (a / 4) (by omega) (by omega), vz_sg (a % 4 * 16 + b / 16) (by omega) (by omega), vz_sg (b % 16 * 4 + c / 64) (by omega) (by omega), vz_sg (c % 64) (by omega) (by omega)]
    omega
  unfold part
  rw [hk, hn]
  have e1 : (a * 65536 + b * 256 + c) / 65536 % 256 = a := by omega
  have e2 : (a * 65536 + b * 256 + c) / 256 % 256 = b := by omega
  have e3 : (a * 65536 + b * 256 + c) % 256 = c := by omega
  rw [e1, e2, e3]
  rfl
theorem part2 (a b : Int) (ha : 0 ≤ a ∧ a ≤ 255) (hb : 0 ≤ b ∧ b ≤ 255) :
    kk [sg (a / 4), sg (a % 4 * 16 + b / 16), sg (b % 16 * 4), 61] = 3 ∧ part [sg (a / 4), sg (a % 4 * 16 + b / 16), sg (b % 16 * 4), 61] = [a, b] := by
  have hk : kk [sg (a / 4), sg (a % 4 * 16 + b / 16), sg (b % 16 * 4), 61] = 3 := by
    simp only [kk, List.countP_cons, List.countP_nil, kk_sg (a / 4) (by omega) (by omega), kk_sg (a % 4 * 16 + b / 16) (by omega) (by omega), kk_sg (b % 16 * 4) (by omega) (by omega), kk_fill]
    rfl
  refine ⟨hk, ?_⟩
  have hn : nn [sg (a / 4), sg (a % 4 * 16 + b / 16), sg (b % 16 * 4), 61] = a * 65536 + b * 256 := by
    simp only [nn, List.foldl_cons, List.foldl_nil, vz_sg (a / 4) (by omega) (by omega), vz_sg (a % 4 * 16 + b / 16) (by omega) (by omega), vz_sg (b % 16 * 4) (by omega) (by omega), vz_fill]
    omega
  unfold part
  rw [hk, hn]
  have e1 : (a * 65536 + b * 256) / 65536 % 256 = a := by omega
  have e2 : (a * 65536 + b * 256) / 256 % 256 = b := by omega
  rw [e1, e2]
  rfl
theorem part1 (a : Int) (ha : 0 ≤ a ∧ a ≤ 255) :
    kk [sg (a / 4), sg (a % 4 * 16), 61, 61] = 2 ∧ part [sg (a / 4), sg (a % 4 * 16), 61, 61] = [a] := by
  have hk : kk [sg (a / 4), sg (a % 4 * 16), 61, 61] = 2 := by
    simp only [kk, List.countP_cons, List.countP_nil, kk_sg (a / 4) (by omega) (by omega), kk_sg (a % 4 * 16) (by omega) (by omega), kk_fill]
    rfl
  refine ⟨hk, ?_⟩
  have hn : nn [sg (a / 4), sg (a % 4 * 16), 61, 61] = a * 65536 := by
    simp only [nn, List.foldl_cons, List.foldl_nil, vz_sg (a / 4) (by omega) (by omega), vz_sg (a % 4 * 16) (by omega) (by omega), vz_fill]
    omega
  unfold part
  rw [hk, hn]
  have e1 : a * 65536 / 65536 % 256 = a := by omega
  rw [e1]
  rfl
theorem enc_three (a b c : Int) (r : List Int) : encB (a :: b :: c :: r) = sg (a / 4) :: sg (a % 4 * 16 + b / 16) :: sg (b % 16 * 4 + c / 64) :: sg (c % 64) :: encB r := by
  have e : fillN (a :: b :: c :: r).length = fillN r.length := by simp only [List.length_cons]; unfold fillN; omega
  unfold encB
  rw [e, encBody]
  rfl
theorem ref_enc : ∀ (zs o : List Int), Byt zs → refD (encB zs) o = some (o ++ zs)
  | a :: b :: c :: r, o, h => by
    have hp := part3 a b c h.head h.tail.head h.tail.tail.head
    rw [enc_three, refD, hp.1, if_neg (by omega), hp.2, ref_enc r _ h.tail.tail.tail, List.append_assoc]
    rfl
  | [a, b], o, h => by
    have hp := part2 a b h.head h.tail.head
    rw [show encB [a, b] = [sg (a / 4), sg (a % 4 * 16 + b / 16), sg (b % 16 * 4), 61] from rfl, refD, hp.1, if_neg (by omega), hp.2]
    rfl
  | [a], o, h => by
    have hp := part1 a h.head
    rw [show encB [a] = [sg (a / 4), sg (a % 4 * 16), 61, 61] from rfl, refD, hp.1, if_neg (by omega), hp.2]
    rfl
  | [], o, _ => by
    rw [enc_nil, List.append_nil]
    rfl
theorem refD_byt : ∀ (l : List UInt8) (o o' : List Int), Byt o → refD l o = some o' → Byt o'
  | c1 :: c2 :: c3 :: c4 :: r, o, o', ho, h => by
    rw [refD] at h
    split at h
    · cases h
    · exact refD_byt r _ o' (byt_app ho (part_byt _)) h
  | [], o, o', ho, h => by rw [refD] at h; cases h; exact ho; simp
  | [_], o, o', ho, h => by rw [refD] at h; cases h; exact ho; simp
  | [_, _], o, o', ho, h => by rw [refD] at h; cases h; exact ho; simp
  | [_, _, _], o, o', ho, h => by rw [refD] at h; cases h; exact ho; simp
theorem ref_is (l : List UInt8) : refB l = decB l := by
  cases hd : decB l with
  | some b =>
    have hg := again hd
    have h4 := (dec_some hd).1
    unfold refB
    rw [if_neg (by omega), ← hg.1, ref_enc b [] hg.2]
    simp [refFin]
  | none =>
    unfold refB
    split
    · rfl
    · cases hr : refD l [] with
      | none => rfl
      | some o =>
        simp only [refFin]
        split
        · rename_i h4 he
          have hb := back o (refD_byt l [] o (fun z hz => by cases hz) hr)
          rw [he, hd] at hb
          cases hb
        · rfl
end Go.Proofs.YtecljjkbadapeaaDoor
