/- The two requests of BininCodes: parts as the table says, and one byte more of extras. Conditions: none. -/
import Derived.Test.YtegaljpllcgaaaaBinPackM
import Derived.Test.YtegaljpllcgaaaaBinOf
namespace Go.Proofs.Ytegaljpllcgaaaa
set_option linter.unusedVariables false
open Go.RowKit

/-- Parts that the table allows. -/
structure PartN (r : R5) (k v : Nat) : Prop where
  key : if r.key = true then 1 ≤ k ∧ k ≤ 250 else k = 0
  val : if r.val = true then v ≤ 1000 else v = 0
theorem status_fit {r : R5} {x k v : Nat} (T : TabN r) (hx : r.ext = (x : Int)) (h : PartN r k v) : statusN r x k ((x + k + v : Nat) : Int) = 0 := by
  rw [status_stN T rfl]
  unfold stN okxN okkN okvN
  have h1 := h.key
  have h2 := h.val
  have hv : v ≤ 1000 := by
    split at h2 <;> omega
  have e1 : (if r.op = 13 then decide (x = 0) || decide (x = 4) else decide ((x : Int) = r.ext)) = true := by
    by_cases h13 : r.op = 13
    · rw [if_pos h13]
      unfold TabN at T
      have : x = 0 := by omega
      simp [this]
    · rw [if_neg h13, decide_eq_true hx.symm]
  have e2 : (if r.key = true then decide (1 ≤ k) && decide (k ≤ 250) else decide (k = 0)) = true := by
    split at h1
    · rename_i hk
      rw [if_pos hk, decide_eq_true h1.1, decide_eq_true h1.2]
      rfl
    · rename_i hk
      rw [if_neg hk, decide_eq_true h1]
  have e3 : (r.val || decide (v = 0)) = true := by
    cases hr : r.val
    · rw [hr, if_neg (by decide)] at h2
      rw [decide_eq_true h2]
      rfl
    · rfl
  rw [e1, e2, e3, if_pos (show (true && true && true) = true from rfl), if_neg (by omega)]
theorem status_more {r : R5} {x k v : Nat} (T : TabN r) (hx : r.ext = (x : Int)) : statusN r ((x + 1 : Nat) : Int) k ((x + 1 + k + v : Nat) : Int) = 4 := by
  rw [status_stN T rfl]
  unfold stN okxN
  have e1 : (if r.op = 13 then decide (x + 1 = 0) || decide (x + 1 = 4) else decide (((x + 1 : Nat) : Int) = r.ext)) = false := by
    by_cases h13 : r.op = 13
    · rw [if_pos h13]
      unfold TabN at T
      have : x = 0 := by omega
      simp [this]
    · rw [if_neg h13, decide_eq_false]
      omega
  rw [e1, if_neg (by simp)]
theorem status_none {r : R5} {x k l : Int} (h : r.op < 0) : statusN r x k l = 129 := by
  unfold statusN
  rw [if_pos h]
theorem fault_b7 {c s o : Int} (s0 : 0 ≤ s) (s1 : s ≤ 255) (h : 7 < (strOf (faultZ c s o)).size) : (((strOf (faultZ c s o))[7]'h).toNat : Int) = s := by
  show ((UInt8.ofNat (s % 256).toNat).toNat : Int) = s
  rw [UInt8.toNat_ofNat']
  omega
/-- What the two requests come to. -/
structure CodesN (r : R5) (S T : Sv) : Prop where
  te : T.e = 2
  tr : ∃ c s o, T.reply = strOf (faultZ c s o) ∧ s = if r.op < 0 then 129 else 4
  bad : r.op < 0 → S.e = 2 ∧ ∃ c o, S.reply = strOf (faultZ c 129 o)
  ok : ¬ r.op < 0 → S.e = 0 ∧ S.req.form.quiet = r.quiet ∧ ∃ c, S.req.cmds = [c] ∧ c.op = r.op
theorem codes16 {c : Int} {p : UInt8} (hp : (p.toNat : Int) = c) {x : Nat} (hx : (ofN c).ext = (x : Int)) {key v : List UInt8} (h : PartN (ofN c) key.length v.length) :
    CodesN (ofN c) (parse16 (packL p (List.replicate x 0) key v 0 7)) (parse16 (packL p (List.replicate (x + 1) 0) key v 0 7)) := by
  have hpb := UInt8.toNat_lt p
  have c0 : 0 ≤ c := by omega
  have c1 : c ≤ 255 := by omega
  have hxb : x ≤ 20 := by have := ext_bd c; omega
  have hk : key.length ≤ 250 := by have := h.key; split at this <;> omega
  have hv : v.length ≤ 1000 := by have := h.val; split at this <;> omega
  have l1 : (List.replicate x (0 : UInt8)).length = x := List.length_replicate
  have l2 : (List.replicate (x + 1) (0 : UInt8)).length = x + 1 := List.length_replicate
  have P1 := pack_is (p := p) (x := List.replicate x 0) (key := key) (v := v) (cas := 0) (opq := 7) (by rw [l1]; omega) (by omega) (by rw [l1]; omega) (by decide) (by decide)
  have P2 := pack_is (p := p) (x := List.replicate (x + 1) 0) (key := key) (v := v) (cas := 0) (opq := 7) (by rw [l2]; omega) (by omega) (by rw [l2]; omega) (by decide) (by decide)
  have E1 := parse_pack P1 (by rw [l1]; omega)
  have E2 := parse_pack P2 (by rw [l2]; omega)
  rw [l1, hp] at E1
  rw [l2, hp] at E2
  by_cases hop : (ofN c).op < 0
  · rw [status_none hop, if_pos (by decide)] at E1 E2
    rw [E1, E2]
    exact ⟨rfl, ⟨_, _, _, rfl, by rw [if_pos hop]⟩, fun _ => ⟨rfl, _, _, rfl⟩, fun h => absurd hop h⟩
  · have T := tab_of c0 c1 (by omega)
    rw [status_fit T hx h, if_neg (by decide)] at E1
    rw [status_more T hx, if_pos (by decide)] at E2
    rw [E1, E2]
    exact ⟨rfl, ⟨_, _, _, rfl, by rw [if_neg hop]⟩, fun h => absurd h hop, fun _ => ⟨rfl, rfl, _, rfl, (cmdB_op _ _).1⟩⟩
end Go.Proofs.Ytegaljpllcgaaaa
