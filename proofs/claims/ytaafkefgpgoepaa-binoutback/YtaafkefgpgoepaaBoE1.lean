/- The document's own answers of the binary dialect: which one it is. Conditions: none. -/
import Derived.Test.YtaafkefgpgoepaaBoE0
namespace Go.Proofs.Ytaafkefgpgoepaa
set_option linter.unusedVariables false
open Go.RowKit

theorem hush_loud (op s : Int) : hushA false op s = false := rfl
theorem hush_get {op s : Int} (h : op = 0 ∨ op = 1) : hushA true op s = decide (s = 1) := by
  unfold hushA
  rw [if_pos h, Bool.true_and]
theorem hush_other {op s : Int} (h : ¬ (op = 0 ∨ op = 1)) : hushA true op s = decide (codeN s = 0) := by
  unfold hushA
  rw [if_neg h, Bool.true_and]
section
variable {f : Fv} {c : Cv} {x : Rv}
theorem oneA_hush (h : hushA f.quiet c.op x.s = true) : oneA f c x = [] := by unfold oneA; rw [if_pos h]
theorem oneA_hit (h : hushA f.quiet c.op x.s = false) (hs : x.s = 0) : oneA f c x = packA f.code f.opq (codeN x.s) x.cas (byL (be x.fl.toNat 4)) (keyA f.code c.key).data.toList x.val := by
  unfold oneA
  rw [if_neg (by rw [h]; decide), if_pos hs]
theorem oneA_num (h : hushA f.quiet c.op x.s = false) (hs : x.s = 7) : oneA f c x = packA f.code f.opq (codeN x.s) x.cas [] [] (byL (be x.num.toNat 8)) := by
  unfold oneA
  rw [if_neg (by rw [h]; decide), if_neg (by omega), if_pos hs]
theorem oneA_put (h : hushA f.quiet c.op x.s = false) (hs : x.s = 2) : oneA f c x = packA f.code f.opq (codeN x.s) x.cas [] [] [] := by
  unfold oneA
  rw [if_neg (by rw [h]; decide), if_neg (by omega), if_neg (by omega), if_pos hs]
theorem oneA_ver (h : hushA f.quiet c.op x.s = false) (hs : x.s = 11) : oneA f c x = packA f.code f.opq (codeN x.s) 0 [] [] [49] := by
  unfold oneA
  rw [if_neg (by rw [h]; decide), if_neg (by omega), if_neg (by omega), if_neg (by omega), if_pos hs]
theorem oneA_bare (h : hushA f.quiet c.op x.s = false) (h0 : ¬ x.s = 0) (h7 : ¬ x.s = 7) (h2 : ¬ x.s = 2) (h11 : ¬ x.s = 11) : oneA f c x = packA f.code f.opq (codeN x.s) 0 [] [] [] := by
  unfold oneA
  rw [if_neg (by rw [h]; decide), if_neg h0, if_neg h7, if_neg h2, if_neg h11]
end
theorem stat_ways (s : Int) : s = 0 ∨ s = 7 ∨ s = 2 ∨ s = 11 ∨ (¬ s = 0 ∧ ¬ s = 7 ∧ ¬ s = 2 ∧ ¬ s = 11) := by omega
theorem code_ways (c : Int) : c = 12 ∨ c = 13 ∨ ¬ (c = 12 ∨ c = 13) := by omega
theorem keyA_yes {c : Int} {key : ByteArray} (h : c = 12 ∨ c = 13) (hk : key.size ≤ 1000) : keyA c key = key := by
  unfold keyA
  rw [if_pos h, if_neg (by omega)]
theorem keyA_no {c : Int} {key : ByteArray} (h : ¬ (c = 12 ∨ c = 13)) : keyA c key = ⟨#[]⟩ := by
  unfold keyA
  rw [if_neg h]
/-- What is told of the request and of its first result. -/
structure EncH (w : World) (f : Fv) (n m : Nat) (c : Cv) (x : Rv) (ca : Option Addr) (cb co : Nat) (va : Option Addr) (vc : Nat) (lb lo : Nat) (ya : Option Addr) (yc : Nat) : Prop where
  n0 : 0 < n
  m0 : 0 < m
  key : c.key.size ≤ 1000
  val : x.val.length ≤ 2000
  o0 : 0 ≤ f.opq
  o1 : f.opq < 4294967296
  ok : x.ok
  c_ : w.rangeAt cb co (cmC c va vc).toList
  x_ : w.rangeAt lb lo (rsC x ya yc).toList
  v_ : Bu w ya x.val.length yc x.val
end Go.Proofs.Ytaafkefgpgoepaa
