/- Requests of the binary dialect, as lists alone: the table of codes, and which status a head has. Conditions: none. -/
import Derived.Test.YtaafkefgpgoepaaStepC
namespace Go.Proofs.Ytaafkefgpgoepaa
set_option linter.unusedVariables false

/-- What a code asks for. -/
structure R5 where
  op : Int
  ext : Int
  key : Bool
  val : Bool
  quiet : Bool
/-- The code of which a quiet one is. -/
def loudN (c : Int) : Int × Bool :=
  if c = 9 then (0, true) else if c = 13 then (12, true) else if 17 ≤ c ∧ c ≤ 24 then (c - 16, true) else if c = 25 ∨ c = 26 then (c - 11, true) else if c = 30 then (29, true) else (c, false)
def opsL : List Int := [0, 3, 4, 5, 8, 10, 11, 16, 13, -1, 14, 15, 0, -1, 6, 7]
def opB (c : Int) : Int := if 0 ≤ c ∧ c < 16 then opsL.getD c.toNat 0 else if c = 28 then 2 else if c = 29 then 1 else -1
def extB (c : Int) : Int := if 1 ≤ c ∧ c ≤ 3 then 8 else if c = 5 ∨ c = 6 then 20 else if c = 28 ∨ c = 29 then 4 else 0
def keyB (c : Int) : Bool := !(decide (c = 7) || decide (c = 8) || decide (c = 10) || decide (c = 11))
def valB (c : Int) : Bool := (decide (1 ≤ c) && decide (c ≤ 3)) || decide (c = 14) || decide (c = 15)
/-- The table's row of a loud code. -/
def rowB (c : Int) (q : Bool) : R5 := ⟨opB c, extB c, keyB c, valB c, q⟩
def ofN (code : Int) : R5 := rowB (loudN code).1 (loudN code).2
/-- The status of a head; 0: none. -/
def statusN (r : R5) (x k l : Int) : Int :=
  if r.op < 0 then 129
  else if l < x + k ∨ (if r.op = 13 then x ≠ 0 ∧ x ≠ 4 else x ≠ r.ext) ∨ (r.val = false ∧ x + k < l) ∨ (r.key = false ∧ 0 < k) then 4
  else if r.key = true ∧ (k < 1 ∨ 250 < k) then 4
  else if 1000 < l - x - k then 3
  else 0
theorem loudN_bd {c : Int} (h0 : 0 ≤ c) (h1 : c ≤ 255) : 0 ≤ (loudN c).1 ∧ (loudN c).1 ≤ 255 := by
  unfold loudN
  repeat' split
  all_goals (simp only []; omega)
/-- Bytes as a number, the highest first, kept to 64 bits. -/
def numB (l : List UInt8) : Int := l.foldl (fun a c => (a * 256 + (c.toNat : Int)) % 18446744073709551616) 0
theorem numB_snoc (l : List UInt8) (c : UInt8) : numB (l ++ [c]) = (numB l * 256 + (c.toNat : Int)) % 18446744073709551616 := by simp [numB]
theorem numB_bd : ∀ l : List UInt8, 0 ≤ numB l ∧ numB l < 18446744073709551616 := by
  have key : ∀ (l : List UInt8) (a : Int), 0 ≤ a ∧ a < 18446744073709551616 → 0 ≤ l.foldl (fun a c => (a * 256 + (c.toNat : Int)) % 18446744073709551616) a ∧ l.foldl (fun a c => (a * 256 + (c.toNat : Int)) % 18446744073709551616) a < 18446744073709551616 := by
    intro l
    induction l with
    | nil => intro a h; exact h
    | cons c l ih => intro a h; exact ih _ (by show 0 ≤ (a * 256 + (c.toNat : Int)) % 18446744073709551616 ∧ (a * 256 + (c.toNat : Int)) % 18446744073709551616 < 18446744073709551616; omega)
  exact fun l => key l 0 (by omega)
/-- A row of the table as cells. -/
def r5C (r : R5) : Array Value := #[.int .i64 r.op, .int .i64 r.ext, .bool r.key, .bool r.val, .bool r.quiet]
end Go.Proofs.Ytaafkefgpgoepaa
