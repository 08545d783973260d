/- What is parsed of the binary dialect: more must come, the end, an error with its reply, or a request that may be. Conditions: none. -/
import Derived.Test.YtegaljpllcgaaaaBinPPar
namespace Go.Proofs.Ytegaljpllcgaaaa
set_option linter.unusedVariables false
open Go.RowKit

/-- A command that may be. -/
structure MayB (c : Cv) : Prop where
  key : keyedN c.key.data.toList = true ∨ (13 ≤ c.op ∧ c.key = ⟨#[]⟩)
  val : c.val.length ≤ 1000
  exp : 0 ≤ c.exp ∧ c.exp ≤ 4294967295
  op : 0 ≤ c.op ∧ c.op ≤ 16
/-- A head, and all that it says behind it. -/
structure WholeB (b : List UInt8) (l : Nat) : Prop where
  first : ((b.getD 0 0).toNat : Int) = 128
  body : getB b 8 4 = (l : Int)
  few : l ≤ 2048
  fit : 24 + l ≤ b.length
/-- A request of its parts. -/
structure AskB (b : List UInt8) (l x k v : Nat) : Prop where
  sum : l = x + k + v
  ext : by4 b = (x : Int)
  key : getB b 2 2 = (k : Int)
  fine : FineN (ofN (by1 b)) (x : Int) (k : Int) (l : Int)
  ok : stB b = 0
  par : parse16 b = reqB (by1 b) (getB b 12 4) b x k v
theorem by1_bd (b : List UInt8) : 0 ≤ by1 b ∧ by1 b ≤ 255 := by
  have := UInt8.toNat_lt (b.getD 1 0)
  unfold by1
  omega
theorem ways16 (b : List UInt8) : parse16 b = bareB 3 ∨ (parse16 b = bareB 9 ∧ 0 < b.length) ∨ ∃ l, WholeB b l ∧ ((stB b = 3 ∨ stB b = 4 ∨ stB b = 129) ∧ parse16 b = faultB (by1 b) (stB b) (getB b 12 4) (24 + (l : Int)) ∨ ∃ x k v, AskB b l x k v) := by
  rcases meas_cases b with e | e | ⟨e, h24, h128, hL, hfit⟩
  · left
    unfold parse16
    rw [e, if_pos (by decide)]
  · right; left
    refine ⟨?_, ?_⟩
    · unfold parse16
      rw [e, if_pos (by decide)]
    · apply Nat.pos_of_ne_zero
      intro h
      unfold measN at e
      rw [if_pos h] at e
      simp at e
  · right; right
    have l0 := (numB_bd ((b.drop 8).take 4)).1
    have k0 := (numB_bd ((b.drop 2).take 2)).1
    have eL : getB b 8 4 = numB ((b.drop 8).take 4) := rfl
    have eK : getB b 2 2 = numB ((b.drop 2).take 2) := rfl
    rw [← eL] at l0
    rw [← eK] at k0
    obtain ⟨l, hl_⟩ : ∃ l : Nat, getB b 8 4 = (l : Int) := ⟨(getB b 8 4).toNat, by omega⟩
    obtain ⟨k, hk_⟩ : ∃ k : Nat, getB b 2 2 = (k : Int) := ⟨(getB b 2 2).toNat, by omega⟩
    obtain ⟨x, hx_⟩ : ∃ x : Nat, by4 b = (x : Int) := ⟨(b.getD 4 0).toNat, rfl⟩
    refine ⟨l, ⟨h128, hl_, by omega, by omega⟩, ?_⟩
    have es : stB b = statusN (ofN (by1 b)) x k l := by unfold stB; rw [hx_, hk_, hl_]
    by_cases hst : stB b = 0
    · right
      have F := fine_of (r := ofN (by1 b)) (x := (x : Int)) (k := (k : Int)) (l := (l : Int)) (by omega) (by rw [← es]; exact hst)
      have ff := F.fit
      refine ⟨x, k, l - x - k, ⟨by omega, hx_, hk_, F, hst, ?_⟩⟩
      unfold parse16
      rw [e, if_neg (by simp), if_neg (by simpa using hst), hx_, hk_, hl_]
      congr 1
      omega
    · left
      have hb := status_bd (r := ofN (by1 b)) (x := (x : Int)) (k := (k : Int)) (l := (l : Int))
      rw [← es] at hb
      refine ⟨by omega, ?_⟩
      unfold parse16
      rw [e, if_neg (by simp), if_pos hst, hl_]
theorem cmdB_exp {r : R5} {x : List UInt8} (h : r.ext = 8 ∧ x.length = 8 ∨ r.ext = 20 ∧ x.length = 20 ∨ r.ext ≠ 8 ∧ r.ext ≠ 20) : 0 ≤ (cmdB r x).exp ∧ (cmdB r x).exp ≤ 4294967295 := by
  rcases h with ⟨h8, hl⟩ | ⟨h20, hl⟩ | ⟨h8, h20⟩
  · rw [cmdB_8 h8]
    have h1 := (numB_bd ((x.drop 4).take 4)).1
    have h2 := numB_four (l := (x.drop 4).take 4) (by rw [List.length_take, List.length_drop]; omega)
    exact ⟨h1, by show numB ((x.drop 4).take 4) ≤ _; omega⟩
  · rw [cmdB_20 h20]
    have h1 := (numB_bd ((x.drop 16).take 4)).1
    have h2 := numB_four (l := (x.drop 16).take 4) (by rw [List.length_take, List.length_drop]; omega)
    show 0 ≤ (if numB ((x.drop 16).take 4) = 4294967295 then 0 else numB ((x.drop 16).take 4)) ∧ (if numB ((x.drop 16).take 4) = 4294967295 then 0 else numB ((x.drop 16).take 4)) ≤ 4294967295
    split <;> omega
  · rw [cmdB_4 h8 h20]
    show 0 ≤ (if x.length = 4 then numB x else 0) ∧ (if x.length = 4 then numB x else 0) ≤ 4294967295
    split
    · have h1 := (numB_bd x).1
      have h2 := numB_four ‹x.length = 4›
      omega
    · omega
theorem ask_may {b : List UInt8} {l x k v : Nat} (hw : WholeB b l) (h : AskB b l x k v) : MayB (cmdQ (ofN (by1 b)) b x k v) := by
  have F := h.fine
  have hc := by1_bd b
  have T := tab_of hc.1 hc.2 F.op
  have hs := h.sum
  have hf := hw.fit
  have hx := fine_ext hc.1 hc.2 F (m := x) rfl
  have kl : ((b.drop (24 + x)).take k).length = k := by rw [List.length_take, List.length_drop]; omega
  have xl : ((b.drop 24).take x).length = x := by rw [List.length_take, List.length_drop]; omega
  obtain ⟨ho, _⟩ := cmdB_op (ofN (by1 b)) ((b.drop 24).take x)
  have hop : (cmdQ (ofN (by1 b)) b x k v).op = (ofN (by1 b)).op := ho
  have hkey : (cmdQ (ofN (by1 b)) b x k v).key = ⟨((b.drop (24 + x)).take k).toArray⟩ := rfl
  refine ⟨?_, ?_, ?_, ?_⟩
  · rw [hkey, hop]
    cases hk : (ofN (by1 b)).key with
    | true =>
      left
      have := F.keyl hk
      rw [keyed_k kl, decide_eq_true (by omega), decide_eq_true (by omega)]
      rfl
    | false =>
      right
      have h0 : k = 0 := by have := F.key hk; omega
      refine ⟨?_, by rw [h0]; rfl⟩
      unfold TabN at T
      rw [hk] at T
      simp only [Bool.false_eq_true, false_and, and_false, false_or] at T
      omega
  · show (if (ofN (by1 b)).val then (b.drop (24 + x + k)).take v else []).length ≤ 1000
    split
    · have := F.vall
      rw [List.length_take]
      omega
    · exact Nat.zero_le _
  · exact cmdB_exp (by rw [xl]; omega)
  · rw [hop]
    have := F.op
    unfold TabN at T
    omega
/-- The reply's bytes. -/
theorem fault_size (c s o : Int) : (strOf (faultZ c s o)).size = 24 := rfl
theorem fault_0 (c s o : Int) : (strOf (faultZ c s o)).data.toList[0]? = some 129 := rfl
theorem fault_1 {b : List UInt8} (s o : Int) : (strOf (faultZ (by1 b) s o)).data.toList[1]? = some (b.getD 1 0) := by
  have := UInt8.toNat_lt (b.getD 1 0)
  show some (UInt8.ofNat ((by1 b % 256).toNat)) = _
  have e : (by1 b % 256).toNat = (b.getD 1 0).toNat := by unfold by1; omega
  rw [e, UInt8.ofNat_toNat]
theorem opq_four {l : List UInt8} (h : l.length = 4) : (opq4 (numB l)).map (fun z => UInt8.ofNat z.toNat) = l := by
  match l, h with
  | [a, b, c, d], _ =>
    have h1 := UInt8.toNat_lt a
    have h2 := UInt8.toNat_lt b
    have h3 := UInt8.toNat_lt c
    have h4 := UInt8.toNat_lt d
    have e : numB [a, b, c, d] = (((a.toNat : Int) * 256 + b.toNat) * 256 + c.toNat) * 256 + d.toNat := by
      simp only [numB, List.foldl_cons, List.foldl_nil]
      omega
    have e1 : (numB [a, b, c, d] / 16777216 % 256).toNat = a.toNat := by rw [e]; omega
    have e2 : (numB [a, b, c, d] / 65536 % 256).toNat = b.toNat := by rw [e]; omega
    have e3 : (numB [a, b, c, d] / 256 % 256).toNat = c.toNat := by rw [e]; omega
    have e4 : (numB [a, b, c, d] % 256).toNat = d.toNat := by rw [e]; omega
    show [UInt8.ofNat _, UInt8.ofNat _, UInt8.ofNat _, UInt8.ofNat _] = _
    rw [e1, e2, e3, e4, UInt8.ofNat_toNat, UInt8.ofNat_toNat, UInt8.ofNat_toNat, UInt8.ofNat_toNat]
theorem fault_opq {b : List UInt8} (c s : Int) (h : 24 ≤ b.length) : (strOf (faultZ c s (getB b 12 4))).extract 12 16 = ⟨((b.drop 12).take 4).toArray⟩ := by
  apply ByteArray.ext
  rw [ByteArray.data_extract]
  apply Array.toList_inj.1
  rw [Array.toList_extract]
  have e : (strOf (faultZ c s (getB b 12 4))).data.toList = (([129, c % 256, 0, 0, 0, 0, wrap64 (s.tdiv 256) % 256, s % 256, 0, 0, 0, 0] : List Int).map fun z => UInt8.ofNat z.toNat) ++ ((opq4 (getB b 12 4)).map (fun z => UInt8.ofNat z.toNat) ++ (([0, 0, 0, 0, 0, 0, 0, 0] : List Int).map fun z => UInt8.ofNat z.toNat)) := by
    unfold strOf faultZ
    simp only [List.map_append, List.append_assoc]
  have ho : (opq4 (getB b 12 4)).map (fun z => UInt8.ofNat z.toNat) = (b.drop 12).take 4 := opq_four (by rw [List.length_take, List.length_drop]; omega)
  rw [e, ho]
  have hl : ((b.drop 12).take 4).length = 4 := by rw [List.length_take, List.length_drop]; omega
  generalize (b.drop 12).take 4 = q at *
  match q, hl with
  | [a, b, c, d], _ => rfl
end Go.Proofs.Ytegaljpllcgaaaa
