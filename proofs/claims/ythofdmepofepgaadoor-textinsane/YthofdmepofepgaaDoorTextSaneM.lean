/- What a request that was read has: keys, values and times that may be. Conditions: none. -/
import Derived.Test.YthofdmepofepgaaDoorG29Joined
namespace Go.Proofs.YthofdmepofepgaaDoor
set_option linter.unusedVariables false

theorem small40_le {l : List UInt8} {z : Int} (h : small40 l = some z) : 0 ≤ z ∧ z ≤ 1099511627776 := by
  rcases dec_cases l with ⟨_, _, _, h1⟩ | ⟨_, _, _, _, _, h1⟩ | ⟨u, h1, _, _, h2, _⟩
  · rw [h] at h1; cases h1
  · rw [h] at h1; cases h1
  · rw [h] at h2
    have : z = (u : Int) := h2
    omega
theorem sgn_le {l : List UInt8} {z : Int} (h : sgn l = some z) : -1099511627776 ≤ z ∧ z ≤ 1099511627776 := by
  unfold sgn at h
  split at h
  · cases hs : small40 (l.drop 1) with
    | none => rw [hs] at h; cases h
    | some y =>
      rw [hs] at h
      have e : -y = z := by simpa using h
      have := small40_le hs
      omega
  · have := small40_le h
    omega
/-- Keys and times that may be. -/
structure Good (d : Dv) : Prop where
  keys : ∀ x ∈ d.keys, keyN x = true
  few : d.keys.length ≤ 16
  exp : -1099511627776 ≤ d.exp ∧ d.exp ≤ 1099511627776
theorem faultK_ne (k : Nat) : faultK k ≠ [] := by
  unfold faultK
  split <;> decide
theorem readW_good {d : Dv} (h : Good d) (k : Nat) (x : List UInt8) (hf : (readW k d x).2 = []) : Good (readW k d x).1 := by
  unfold readW at hf ⊢
  split at hf
  · rename_i hk
    rw [if_pos hk]
    simp only [] at hf
    split at hf
    · rename_i hx
      refine ⟨fun y hy => ?_, by have := hx.2; simp; omega, h.exp⟩
      rcases List.mem_append.1 hy with h1 | h1
      · exact h.keys y h1
      · simp at h1
        rw [h1]
        exact hx.1
    · exact absurd hf (by decide)
  · rename_i hk
    rw [if_neg hk]
    split at hf
    · rename_i hk1
      rw [if_pos hk1]
      split at hf
      · rename_i z hz
        exact ⟨h.keys, h.few, sgn_le hz⟩
      · exact absurd (show t_bad = [] from hf) (by decide)
    · rename_i hk1
      rw [if_neg hk1]
      split at hf
      · rename_i u hu
        split at hf
        · rename_i hm
          rw [if_pos hm]
          unfold keepK
          repeat' split
          all_goals exact ⟨h.keys, h.few, h.exp⟩
        · exact absurd hf (faultK_ne k)
      · exact absurd hf (faultK_ne k)
theorem runR_good : ∀ (ks : List Nat) (ws : List (List UInt8)) (d : Dv) (f : List UInt8), (f = [] → Good d) → (runR ks ws d f).2 = [] → Good (runR ks ws d f).1
  | [], ws, d, f, h, hf => h hf
  | k :: ks, [], d, f, h, hf => h hf
  | k :: ks, x :: ws, d, f, h, hf => by
    refine runR_good ks ws _ _ (fun e => ?_) hf
    by_cases h0 : f = []
    · rw [if_pos h0] at e
      exact readW_good (h h0) k x e
    · rw [if_neg h0] at e
      exact absurd e h0
/-- What reading leaves as it is, and that it forgets no key. -/
theorem readW_op (k : Nat) (d : Dv) (x : List UInt8) : (readW k d x).1.op = d.op ∧ (readW k d x).1.val = d.val ∧ (d.keys ≠ [] → (readW k d x).1.keys ≠ []) ∧ (k = 0 → (readW k d x).1.keys ≠ []) := by
  unfold readW
  split
  · exact ⟨rfl, rfl, fun _ => by simp, fun _ => by simp⟩
  · rename_i hk
    split
    · split <;> exact ⟨rfl, rfl, fun h => h, fun e => absurd e hk⟩
    · split
      · split
        · unfold keepK
          repeat' split
          all_goals exact ⟨rfl, rfl, fun h => h, fun e => absurd e hk⟩
        · exact ⟨rfl, rfl, fun h => h, fun e => absurd e hk⟩
      · exact ⟨rfl, rfl, fun h => h, fun e => absurd e hk⟩
theorem runR_op : ∀ (ks : List Nat) (ws : List (List UInt8)) (d : Dv) (f : List UInt8), (runR ks ws d f).1.op = d.op ∧ (d.keys ≠ [] ∨ (0 ∈ ks ∧ ws.length = ks.length) → (runR ks ws d f).1.keys ≠ [])
  | [], ws, d, f => ⟨rfl, fun h => by
    rcases h with h | h
    · exact h
    · cases h.1⟩
  | k :: ks, [], d, f => ⟨rfl, fun h => by
    rcases h with h | h
    · exact h
    · cases h.2⟩
  | k :: ks, x :: ws, d, f => by
    obtain ⟨h1, _, h2, h3⟩ := readW_op k d x
    obtain ⟨h4, h5⟩ := runR_op ks ws (readW k d x).1 (if f = [] then (readW k d x).2 else f)
    refine ⟨h4.trans h1, fun h => h5 ?_⟩
    rcases h with h | ⟨h, hl⟩
    · exact .inl (h2 h)
    · rcases List.mem_cons.1 h with e | e
      · exact .inl (h3 e.symm)
      · exact .inr ⟨e, by simpa using hl⟩
theorem ite_some {p : Prop} [Decidable p] {a o : Int} {r : Option Int} {Q : Prop} (h : (if p then some a else r) = some o) (h1 : a = o → Q) (h2 : r = some o → Q) : Q := by
  by_cases hp : p
  · rw [if_pos hp] at h
    exact h1 (Option.some.inj h)
  · rw [if_neg hp] at h
    exact h2 h
theorem opN_in {v : List UInt8} {o : Int} (h : opN v = some o) : (0 ≤ o ∧ o ≤ 8) ∨ o = 10 ∨ o = 11 ∨ o = 13 ∨ o = 15 ∨ o = 16 := by
  unfold opN at h
  iterate 14 refine ite_some h (fun e => by omega) fun h => ?_
  cases h
theorem parts_key {o : Int} (h : (0 ≤ o ∧ o ≤ 8) ∨ o = 10 ∨ o = 11) (v : List UInt8) (ws : List (List UInt8)) : 0 ∈ partsN o v ws := by
  unfold partsN
  repeat' split
  all_goals first | (simp; done) | (simp; omega) | omega
end Go.Proofs.YthofdmepofepgaaDoor
