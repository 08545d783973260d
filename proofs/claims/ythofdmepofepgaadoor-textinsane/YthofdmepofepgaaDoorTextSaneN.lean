/- What is parsed is none yet, an error with its reply, or a request that may be. Conditions: none. -/
import Derived.Test.YthofdmepofepgaaDoorTextSaneM
namespace Go.Proofs.YthofdmepofepgaaDoor
set_option linter.unusedVariables false

/-- What a line without a fault leaves. -/
structure Fine (d : Dv) : Prop where
  good : Good d
  op : 0 ≤ d.op ∧ d.op ≤ 16
  key : d.keys = [] → 13 ≤ d.op
theorem begun_good (v : List UInt8) (q : Bool) : Good { begun v with quiet := q } := ⟨fun x hx => (by cases hx), by show (0 : Nat) ≤ 16; decide, by show (-1099511627776 : Int) ≤ 0 ∧ (0 : Int) ≤ 1099511627776; decide⟩
theorem run_fine {v : List UInt8} {o : Int} (ho : opN v = some o) (q : Bool) (ws ws1 : List (List UInt8)) (hl : ws1.length = (partsN (begun v).op v ws).length) (hf : (largeN (runR (partsN (begun v).op v ws) ws1 { begun v with quiet := q } [])).2 = []) : Fine (largeN (runR (partsN (begun v).op v ws) ws1 { begun v with quiet := q } [])).1 := by
  have hop : (begun v).op = o := by show (opN v).getD 0 = o; rw [ho]; rfl
  have h0 : (runR (partsN (begun v).op v ws) ws1 { begun v with quiet := q } []).2 = [] := by
    unfold largeN at hf
    simp only [] at hf
    by_cases h1 : (runR (partsN (begun v).op v ws) ws1 { begun v with quiet := q } []).2 = [] ∧ 1000 < (runR (partsN (begun v).op v ws) ws1 { begun v with quiet := q } []).1.size
    · exact h1.1
    · rw [if_neg h1] at hf
      exact hf
  obtain ⟨h1, h2⟩ := runR_op (partsN (begun v).op v ws) ws1 { begun v with quiet := q } []
  have h3 := opN_in ho
  have e : (largeN (runR (partsN (begun v).op v ws) ws1 { begun v with quiet := q } [])).1 = (runR (partsN (begun v).op v ws) ws1 { begun v with quiet := q } []).1 := rfl
  rw [e]
  have h4 : (runR (partsN (begun v).op v ws) ws1 { begun v with quiet := q } []).1.op = o := h1.trans hop
  refine ⟨runR_good _ _ _ _ (fun _ => begun_good v q) h0, by rw [h4]; omega, fun hk => ?_⟩
  rw [h4]
  rcases Int.lt_or_le o 13 with h5 | h5
  · exact absurd hk (h2 (.inr ⟨parts_key (by rw [hop]; omega) v ws, hl⟩))
  · exact h5
theorem behind_fine {v : List UInt8} {o : Int} (ho : opN v = some o) (ws : List (List UInt8)) (hf : (behindN v ws).2 = []) : Fine (behindN v ws).1 := by
  unfold behindN at hf ⊢
  simp only [] at hf ⊢
  cases hq : quietN (begun v).op ws (partsN (begun v).op v ws).length
  · rw [hq] at hf
    simp only [Bool.false_eq_true, if_false] at hf ⊢
    split at hf
    · rename_i hl
      rw [if_pos hl]
      exact run_fine ho false ws ws hl hf
    · exact absurd (show t_ERROR = [] from hf) (by decide)
  · rw [hq] at hf
    simp only [if_true] at hf ⊢
    split at hf
    · rename_i hl
      rw [if_pos hl]
      exact run_fine ho true ws _ hl hf
    · exact absurd (show t_ERROR = [] from hf) (by decide)
theorem readN_fine (ws : List (List UInt8)) (hf : (readN ws).2 = []) : Fine (readN ws).1 := by
  cases ws with
  | nil => exact absurd (show t_ERROR = [] from hf) (by decide)
  | cons v ws =>
    rw [show readN (v :: ws) = if opN v = none then (begun v, t_ERROR) else behindN v ws from rfl] at hf ⊢
    cases ho : opN v with
    | none =>
      rw [ho, if_pos rfl] at hf
      exact absurd (show t_ERROR = [] from hf) (by decide)
    | some o =>
      rw [ho, if_neg (by simp)] at hf
      rw [if_neg (by simp)]
      exact behind_fine ho ws hf
/-- A command that may be. -/
structure MayC (c : Cv) : Prop where
  key : (∃ k, c.key = mkB k ∧ keyN k = true) ∨ (13 ≤ c.op ∧ c.key = mkB [])
  val : c.val.length ≤ 1000
  exp : -1099511627776 ≤ c.exp ∧ c.exp ≤ 1099511627776
  op : 0 ≤ c.op ∧ c.op ≤ 16
theorem req_may {d : Dv} (h : Fine d) (hv : d.val.length ≤ 1000) : 0 < (reqD d).cmds.length ∧ (reqD d).cmds.length ≤ 16 ∧ ∀ c ∈ (reqD d).cmds, MayC c := by
  have e : (reqD d).cmds = if d.keys = [] then [cmdD d []] else d.keys.map (cmdD d) := rfl
  rw [e]
  by_cases hk : d.keys = []
  · rw [if_pos hk]
    refine ⟨by simp, by simp, fun c hc => ?_⟩
    rw [List.mem_singleton.1 hc]
    exact ⟨.inr ⟨h.key hk, rfl⟩, hv, h.good.exp, h.op⟩
  · rw [if_neg hk, List.length_map]
    refine ⟨List.length_pos_iff.2 hk, h.good.few, fun c hc => ?_⟩
    obtain ⟨k, h1, rfl⟩ := List.mem_map.1 hc
    exact ⟨.inl ⟨k, rfl, h.good.keys k h1⟩, hv, h.good.exp, h.op⟩
end Go.Proofs.YthofdmepofepgaaDoor
