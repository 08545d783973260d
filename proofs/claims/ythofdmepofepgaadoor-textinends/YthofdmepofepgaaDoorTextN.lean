/- What is known of a line of words that was read, as plain facts. Conditions: none. -/
import Derived.Test.YthofdmepofepgaaDoorG03Joined
namespace Go.Proofs.YthofdmepofepgaaDoor

/-- The faults that words may have. -/
def Flt (f : List UInt8) : Prop := f = [] ∨ f = t_ERROR ∨ f = t_bad ∨ f = t_delta ∨ f = t_large
theorem Flt.len {f : List UInt8} (h : Flt f) : f.length ≤ 1000 := by
  rcases h with rfl | rfl | rfl | rfl | rfl <;> decide
/-- What a draft has behind some words. -/
structure DOk (d : Dv) (n : Nat) : Prop where
  keys : d.keys.length ≤ n
  size : 0 ≤ d.size
  val : d.val = []
theorem DOk.mono {d : Dv} {n m : Nat} (h : DOk d n) (hn : n ≤ m) : DOk d m := ⟨Nat.le_trans h.keys hn, h.size, h.val⟩
theorem faultK_flt (k : Nat) : Flt (faultK k) := by
  unfold faultK
  split
  · exact .inr (.inr (.inr (.inl rfl)))
  · exact .inr (.inr (.inl rfl))
theorem readW_ok {d : Dv} {n : Nat} (h : DOk d n) (k : Nat) (x : List UInt8) : DOk (readW k d x).1 (n + 1) ∧ Flt (readW k d x).2 := by
  have hk := h.keys
  unfold readW
  split
  · refine ⟨⟨by simp; omega, h.size, h.val⟩, ?_⟩
    simp only []
    split
    · exact .inl rfl
    · exact .inr (.inr (.inl rfl))
  · split
    · split
      · exact ⟨⟨by simp only []; omega, h.size, h.val⟩, .inl rfl⟩
      · exact ⟨h.mono (by omega), .inr (.inr (.inl rfl))⟩
    · split
      · split
        · refine ⟨?_, .inl rfl⟩
          unfold keepK
          repeat' split
          · exact ⟨by simp only []; omega, h.size, h.val⟩
          · exact ⟨by simp only []; omega, h.size, h.val⟩
          · exact ⟨by simp only []; omega, by simp only []; omega, h.val⟩
          · exact ⟨by simp only []; omega, h.size, h.val⟩
        · exact ⟨h.mono (by omega), faultK_flt k⟩
      · exact ⟨h.mono (by omega), faultK_flt k⟩
theorem runR_ok : ∀ (ks : List Nat) (ws : List (List UInt8)) (d : Dv) (f : List UInt8) (n : Nat), DOk d n → Flt f → DOk (runR ks ws d f).1 (n + ws.length) ∧ Flt (runR ks ws d f).2
  | [], ws, d, f, n, h, hf => ⟨h.mono (by omega), hf⟩
  | k :: ks, [], d, f, n, h, hf => ⟨h.mono (by omega), hf⟩
  | k :: ks, x :: ws, d, f, n, h, hf => by
    obtain ⟨h1, h2⟩ := readW_ok h k x
    have hf2 : Flt (if f = [] then (readW k d x).2 else f) := by
      split
      · exact h2
      · exact hf
    obtain ⟨h3, h4⟩ := runR_ok ks ws _ _ _ h1 hf2
    refine ⟨?_, h4⟩
    rw [List.length_cons, show n + (ws.length + 1) = n + 1 + ws.length by omega]
    exact h3
theorem begun_ok (v : List UInt8) (q : Bool) : DOk { begun v with quiet := q } 0 := ⟨Nat.le_refl _, Int.le_refl _, rfl⟩
theorem large_ok {r : Dv × List UInt8} {n : Nat} (h : DOk r.1 n) (hf : Flt r.2) : DOk (largeN r).1 n ∧ Flt (largeN r).2 ∧ ((largeN r).2 = [] → (largeN r).1.size ≤ 1000) := by
  unfold largeN
  simp only []
  split
  · exact ⟨h, .inr (.inr (.inr (.inr rfl))), fun e => by cases e⟩
  · rename_i hn
    refine ⟨h, hf, fun e => ?_⟩
    rcases Int.lt_or_le 1000 r.1.size with h1 | h1
    · exact absurd ⟨e, h1⟩ hn
    · exact h1
theorem behind_ok (v : List UInt8) (ws : List (List UInt8)) : DOk (behindN v ws).1 ws.length ∧ Flt (behindN v ws).2 ∧ ((behindN v ws).2 = [] → (behindN v ws).1.size ≤ 1000) := by
  unfold behindN
  simp only []
  generalize partsN (begun v).op v ws = ks
  cases quietN (begun v).op ws ks.length
  · simp only [Bool.false_eq_true, if_false]
    split
    · obtain ⟨h1, h2⟩ := runR_ok ks ws (begun v) [] 0 (begun_ok v false) (.inl rfl)
      rw [Nat.zero_add] at h1
      exact large_ok h1 h2
    · exact ⟨(begun_ok v false).mono (Nat.zero_le _), .inr (.inl rfl), fun e => by cases e⟩
  · simp only [if_true]
    split
    · obtain ⟨h1, h2⟩ := runR_ok ks (ws.take ks.length) { begun v with quiet := true } [] 0 (begun_ok v true) (.inl rfl)
      rw [Nat.zero_add] at h1
      exact large_ok (h1.mono (by rw [List.length_take]; omega)) h2
    · exact ⟨(begun_ok v true).mono (Nat.zero_le _), .inr (.inl rfl), fun e => by cases e⟩
theorem readN_ok (ws : List (List UInt8)) : DOk (readN ws).1 ws.length ∧ Flt (readN ws).2 ∧ ((readN ws).2 = [] → (readN ws).1.size ≤ 1000) := by
  cases ws with
  | nil => exact ⟨⟨Nat.le_refl _, Int.le_refl _, rfl⟩, .inr (.inl rfl), fun e => by cases e⟩
  | cons v ws =>
    rw [show readN (v :: ws) = if opN v = none then (begun v, t_ERROR) else behindN v ws from rfl]
    split
    · exact ⟨(begun_ok v false).mono (Nat.zero_le _), .inr (.inl rfl), fun e => by cases e⟩
    · obtain ⟨h1, h2, h3⟩ := behind_ok v ws
      exact ⟨h1.mono (by simp), h2, h3⟩
theorem wd_each : ∀ (r cur : List UInt8), ∀ y ∈ wd cur r, y.length ≤ cur.length + r.length
  | [], cur, y, hy => by
    simp only [wd] at hy
    split at hy
    · simp at hy
    · simp at hy
      subst hy
      simp
  | c :: r, cur, y, hy => by
    simp only [wd] at hy
    split at hy
    · split at hy
      · have := wd_each r [] y hy
        simp at this ⊢
        omega
      · rcases List.mem_cons.1 hy with rfl | h
        · simp
        · have := wd_each r [] y h
          simp at this ⊢
          omega
    · have := wd_each r (cur ++ [c]) y hy
      simp at this ⊢
      omega
theorem wordsL_each (l : List UInt8) : ∀ y ∈ wordsL l, y.length ≤ l.length := fun y hy => by
  have h : wordsL l = wd [] l := by unfold wordsL restL; simp
  rw [h] at hy
  have := wd_each l [] y hy
  simpa using this
theorem wordsL_len (l : List UInt8) : (wordsL l).length ≤ l.length + 1 := by
  have h : wordsL l = wd [] l := by unfold wordsL restL; simp
  rw [h]
  exact wd_len l []
/-- The three ways of a body. -/
theorem body_ways (l : List UInt8) (n : Int) : (bodyN l n).2.2 = 3 ∨ (bodyN l n).2.2 = 2 ∨ (bodyN l n).2.2 = 0 := by
  unfold bodyN
  repeat' split
  all_goals simp
end Go.Proofs.YthofdmepofepgaaDoor
