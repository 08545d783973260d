/- Answers of the binary dialect, as lists alone. Conditions: none. -/
import Derived.Test.YtaafkefgpgoepaaFewM
import Derived.Test.YtaafkefgpgoepaaRowApp
namespace Go.Proofs.Ytaafkefgpgoepaa
set_option linter.unusedVariables false

/-- The number of a status. -/
def codeN (s : Int) : Int := if s = 0 ∨ s = 2 ∨ s = 5 ∨ s = 6 ∨ s = 7 ∨ s = 10 ∨ s = 11 then 0 else if s = 1 then 1 else if s = 4 then 2 else if s = 3 then 5 else if s = 8 then 6 else if s = 9 then 130 else 132
/-- An answer of its parts. -/
def packA (c opq st cas : Int) (x key v : List UInt8) : List UInt8 :=
  [129, UInt8.ofNat (c % 256).toNat] ++ byL (be key.length 2) ++ [UInt8.ofNat x.length] ++ [0] ++ byL (be st.toNat 2) ++ byL (be (x.length + key.length + v.length) 4) ++ byL (be opq.toNat 4) ++ byL (be cas.toNat 8) ++ x ++ key ++ v
/-- Whether nothing is said. -/
def hushA (quiet : Bool) (op s : Int) : Bool := quiet && (if op = 0 ∨ op = 1 then decide (s = 1) else decide (codeN s = 0))
/-- The key that is told. -/
def keyA (c : Int) (key : ByteArray) : ByteArray := if c = 12 ∨ c = 13 then (if 65535 < key.size then key.extract 0 65535 else key) else ⟨#[]⟩
/-- What is answered of one result. -/
def oneA (f : Fv) (c : Cv) (x : Rv) : List UInt8 :=
  if hushA f.quiet c.op x.s = true then []
  else if x.s = 0 then packA f.code f.opq (codeN x.s) x.cas (byL (be x.fl.toNat 4)) (keyA f.code c.key).data.toList x.val
  else if x.s = 7 then packA f.code f.opq (codeN x.s) x.cas [] [] (byL (be x.num.toNat 8))
  else if x.s = 2 then packA f.code f.opq (codeN x.s) x.cas [] [] []
  else if x.s = 11 then packA f.code f.opq (codeN x.s) 0 [] [] [49]
  else packA f.code f.opq (codeN x.s) 0 [] [] []
def encA (r : Qv) (xs : List Rv) : List UInt8 :=
  match r.cmds, xs with
  | c :: _, x :: _ => oneA r.form c x
  | _, _ => []
theorem codeN_bd (s : Int) : 0 ≤ codeN s ∧ codeN s ≤ 132 := by
  unfold codeN
  repeat' split
  all_goals omega
end Go.Proofs.Ytaafkefgpgoepaa
