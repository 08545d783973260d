/- What the walks of every layer share. Conditions: none of the program's variables is read. Commands, and how they were said, as values. Conditions: none. Lines and bodies, as lists of bytes: what chapter 13 says. Conditions: none. -/
import Derived.Test.YtfcmnkhfmofioaaDoorRows
import Derived.WalkKit
import Derived.WalkSmall
import Derived.OwnWalk
import Derived.WalkSpells
import Derived.Lib.Hide
import Derived.Lib.Bytealg
namespace Go.Proofs.YtfcmnkhfmofioaaDoor
open Go.RowKit

theorem own : ownKnob Tryd.prog.godebug = none := by kernel_rfl
theorem laidOut : laidOutB Tryd.prog = true := by kernel_rfl
theorem Bt {w w1 w2 : World} (h : Below w.heap.size w w1) (k : Below w1.heap.size w1 w2) : Below w.heap.size w w2 := h.trans (k.mono h.size)
theorem hide {p : Prop} (h : p) : Hid p := h
theorem ret_bool {b : Bool} (h : b = true) : Ending.returned (.bool b) = .returned (.bool true) := by rw [h]
theorem u64_wf {a : Int} (h : (Lit.int .u64 a).wf = true) : 0 ≤ a ∧ a < 18446744073709551616 := by
  have e1 : IntKind.u64.min = 0 := rfl
  have e2 : IntKind.u64.max = 18446744073709551615 := rfl
  simp [Lit.wf, e1, e2] at h
  omega
theorem i64_wf {a : Int} (h : (Lit.int .i64 a).wf = true) : -9223372036854775808 ≤ a ∧ a < 9223372036854775808 := by
  have e1 : IntKind.i64.min = -9223372036854775808 := rfl
  have e2 : IntKind.i64.max = 9223372036854775807 := rfl
  simp [Lit.wf, e1, e2] at h
  omega
theorem u8_wf {a : Int} (h : (Lit.int .u8 a).wf = true) : 0 ≤ a ∧ a ≤ 255 := by
  have e1 : IntKind.u8.min = 0 := rfl
  have e2 : IntKind.u8.max = 255 := rfl
  simp [Lit.wf, e1, e2] at h
  omega
end Go.Proofs.YtfcmnkhfmofioaaDoor

namespace Go.Proofs.YtfcmnkhfmofioaaDoor

/-- A command as a value, its bytes with it. -/
structure Cv where
  op : Int
  key : ByteArray
  val : List UInt8
  fl : Int
  exp : Int
  cas : Int
  del : Int
  ini : Int
  makes : Bool
  sets : Bool
/-- How a request was said. -/
structure Fv where
  dia : Int
  verb : ByteArray
  code : Int
  opq : Int
  quiet : Bool
  wcas : Bool
  flags : ByteArray
  toks : List ByteArray
  keys : List ByteArray
  b64 : Bool
/-- A request. -/
structure Qv where
  cmds : List Cv
  form : Fv
/-- What the first bytes of a connection are. -/
structure Sv where
  req : Qv
  reply : ByteArray
  used : Int
  skip : Int
  line : Bool
  e : Int
def noF : Fv := ⟨0, ⟨#[]⟩, 0, 0, false, false, ⟨#[]⟩, [], [], false⟩
def noQ : Qv := ⟨[], noF⟩
end Go.Proofs.YtfcmnkhfmofioaaDoor

namespace Go.Proofs.YtfcmnkhfmofioaaDoor

/-- What is ahead of the first line feed, and what is behind it. -/
def cutL : List UInt8 → Option (List UInt8 × List UInt8)
  | [] => none
  | c :: l => if c = 10 then some ([], l) else (cutL l).map fun x => (c :: x.1, x.2)
theorem cutL_of : ∀ (p r : List UInt8), (10 : UInt8) ∉ p → cutL (p ++ 10 :: r) = some (p, r)
  | [], r, _ => by simp [cutL]
  | c :: p, r, h => by
    have hc : c ≠ 10 := fun e => h (by simp [e])
    have hp : (10 : UInt8) ∉ p := fun e => h (by simp [e])
    show cutL (c :: (p ++ 10 :: r)) = _
    rw [cutL, if_neg hc, cutL_of p r hp]
    rfl
theorem cutL_no : ∀ (l : List UInt8), (10 : UInt8) ∉ l → cutL l = none
  | [], _ => rfl
  | c :: l, h => by
    have hc : c ≠ 10 := fun e => h (by simp [e])
    have hp : (10 : UInt8) ∉ l := fun e => h (by simp [e])
    rw [cutL, if_neg hc, cutL_no l hp]
    rfl
/-- Bytes have no line feed, or a first one. -/
theorem feeds : ∀ (l : List UInt8), (10 : UInt8) ∉ l ∨ ∃ p r, l = p ++ 10 :: r ∧ (10 : UInt8) ∉ p
  | [] => .inl (by simp)
  | c :: l => by
    by_cases hc : c = 10
    · exact .inr ⟨[], l, by rw [hc]; rfl, by simp⟩
    · rcases feeds l with h | ⟨p, r, h1, h2⟩
      · exact .inl (by simp; exact ⟨fun e => hc e.symm, h⟩)
      · exact .inr ⟨c :: p, r, by rw [h1]; rfl, by simp; exact ⟨fun e => hc e.symm, h2⟩⟩
/-- The first line feed's place; -1: there is none. -/
def feedI (l : List UInt8) : Int := match cutL l with
  | none => -1
  | some x => x.1.length
theorem feedI_of {p r : List UInt8} (h : (10 : UInt8) ∉ p) : feedI (p ++ 10 :: r) = p.length := by unfold feedI; rw [cutL_of p r h]
theorem feedI_no {l : List UInt8} (h : (10 : UInt8) ∉ l) : feedI l = -1 := by unfold feedI; rw [cutL_no l h]
theorem feedI_lib : ∀ (l : List UInt8), Lib.indexByte l 10 = feedI l
  | [] => rfl
  | c :: l => by
    have ih := feedI_lib l
    unfold Lib.indexByte
    by_cases hc : c = 10
    · subst hc
      rfl
    · have hb : (c == 10) = false := by simpa using hc
      rw [hb, ih]
      unfold feedI
      rw [cutL, if_neg hc]
      cases hk : cutL l with
      | none => rfl
      | some x => simp
/-- A line without one carriage return at its end. -/
def noCR (p : List UInt8) : List UInt8 := if p.getLast? = some 13 then p.dropLast else p
theorem noCR_snoc (p : List UInt8) : noCR (p ++ [13]) = p := by simp [noCR]
theorem noCR_len (p : List UInt8) : (noCR p).length ≤ p.length ∧ p.length ≤ (noCR p).length + 1 := by
  unfold noCR
  split
  · rw [List.length_dropLast]; omega
  · omega
theorem noCR_take (p : List UInt8) : noCR p = p.take (noCR p).length := by
  unfold noCR
  split
  · rw [List.length_dropLast, List.dropLast_eq_take]
  · rw [List.take_length]
/-- P13.1: the line, how many bytes, the error. -/
def lineN (l : List UInt8) : List UInt8 × Int × Int := match cutL l with
  | none => if 2049 < l.length then ([], l.length, 4) else ([], 0, 3)
  | some x => if 2048 < (noCR x.1).length then ([], x.1.length + 1, 4) else (noCR x.1, x.1.length + 1, 0)
theorem lineN_of {p r : List UInt8} (h : (10 : UInt8) ∉ p) : lineN (p ++ 10 :: r) = if 2048 < (noCR p).length then ([], (p.length : Int) + 1, 4) else (noCR p, (p.length : Int) + 1, 0) := by unfold lineN; rw [cutL_of p r h]
theorem lineN_no {l : List UInt8} (h : (10 : UInt8) ∉ l) : lineN l = if 2049 < l.length then ([], (l.length : Int), 4) else ([], 0, 3) := by unfold lineN; rw [cutL_no l h]
/-- P13.2: the body, how many bytes, the error. -/
def bodyN (l : List UInt8) (n : Int) : List UInt8 × Int × Int :=
  if n < 0 ∨ 1000 < n then ([], 0, 2)
  else if (l.length : Int) < n + 2 then ([], 0, 3)
  else if (l.drop n.toNat).take 2 = [13, 10] then (l.take n.toNat, n + 2, 0)
  else ([], n, 2)
/-- P13.3: how many are passed over, how many are still to be, and whether a line feed is. -/
def passN (l : List UInt8) (skip : Int) (line : Bool) : Int × Int × Bool :=
  let s := if skip < 0 then 0 else skip
  if (l.length : Int) < s then (l.length, s - l.length, line)
  else if line = false then (s, 0, false)
  else if feedI (l.drop s.toNat) < 0 then (l.length, 0, true)
  else (s + feedI (l.drop s.toNat) + 1, 0, false)
/-- P13.4. -/
def keyedN (l : List UInt8) : Bool := decide (1 ≤ l.length) && decide (l.length ≤ 250)
def signN (c : UInt8) : Bool := decide (32 < c.toNat) && decide (c.toNat ≠ 127)
def keyN (l : List UInt8) : Bool := keyedN l && l.all signN
end Go.Proofs.YtfcmnkhfmofioaaDoor
