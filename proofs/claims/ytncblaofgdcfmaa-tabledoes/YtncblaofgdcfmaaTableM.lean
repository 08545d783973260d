/- Tables of texts over lists alone: nothing of the program is run here. Conditions: none. -/
import Derived.Test.YtncblaofgdcfmaaKit0
namespace Go.Proofs.Ytncblaofgdcfmaa

/-- Does a text stand ahead of another, byte by byte? -/
def ltB : List UInt8 → List UInt8 → Bool
  | _, [] => false
  | [], _ :: _ => true
  | a :: l, b :: m => if a < b then true else if b < a then false else ltB l m
abbrev Kv := ByteArray × Int
def ltK (a b : ByteArray) : Bool := ltB a.data.toList b.data.toList
theorem ltB_irrefl : ∀ l, ltB l l = false
  | [] => rfl
  | a :: l => by simp [ltB, UInt8.lt_irrefl, ltB_irrefl l]
theorem ltB_trans : ∀ {l m n}, ltB l m = true → ltB m n = true → ltB l n = true
  | _, [], _, h, _ => by cases ‹List UInt8› <;> simp [ltB] at h
  | _, b :: m, [], _, h => by simp [ltB] at h
  | [], b :: m, c :: n, _, _ => by simp [ltB]
  | a :: l, b :: m, c :: n, h1, h2 => by
    unfold ltB at h1 h2 ⊢
    by_cases hab : a < b
    · by_cases hbc : b < c
      · simp [UInt8.lt_trans hab hbc]
      · by_cases hcb : c < b
        · simp [hbc, hcb] at h2
        · have : b = c := UInt8.le_antisymm (UInt8.not_lt.1 hcb) (UInt8.not_lt.1 hbc)
          subst this
          simp [hab]
    · by_cases hba : b < a
      · simp [hab, hba] at h1
      · have : a = b := UInt8.le_antisymm (UInt8.not_lt.1 hba) (UInt8.not_lt.1 hab)
        subst this
        simp [hab] at h1
        by_cases hac : a < c
        · simp [hac]
        · by_cases hca : c < a
          · simp [hac, hca] at h2
          · simp [hac, hca] at h2 ⊢
            exact ltB_trans h1 h2
theorem ltB_total : ∀ {l m}, ltB l m = false → ltB m l = false → l = m
  | [], [], _, _ => rfl
  | [], b :: m, h, _ => by simp [ltB] at h
  | a :: l, [], _, h => by simp [ltB] at h
  | a :: l, b :: m, h1, h2 => by
    unfold ltB at h1 h2
    by_cases hab : a < b
    · simp [hab] at h1
    · by_cases hba : b < a
      · simp [hba] at h2
      · have : a = b := UInt8.le_antisymm (UInt8.not_lt.1 hba) (UInt8.not_lt.1 hab)
        subst this
        simp [hab] at h1 h2
        rw [ltB_total h1 h2]
theorem ltK_irrefl (a : ByteArray) : ltK a a = false := ltB_irrefl _
theorem ltK_trans {a b c : ByteArray} (h1 : ltK a b = true) (h2 : ltK b c = true) : ltK a c = true := ltB_trans h1 h2
theorem ltK_total {a b : ByteArray} (h1 : ltK a b = false) (h2 : ltK b a = false) : a = b := ByteArray.ext (Array.toList_inj.1 (ltB_total h1 h2))
theorem ltK_ne {a b : ByteArray} (h : ltK a b = true) : a ≠ b := fun e => by rw [e, ltK_irrefl] at h; cases h
theorem ltK_asymm {a b : ByteArray} (h : ltK a b = true) : ltK b a = false := by
  cases h2 : ltK b a with
  | false => rfl
  | true => exact absurd (ltK_trans h h2) (by rw [ltK_irrefl]; simp)
/-- Pairs by rising texts. -/
def Rising (l : List Kv) : Prop := l.Pairwise fun a b => ltK a.1 b.1 = true
def putL (k : ByteArray) (v : Int) : List Kv → List Kv
  | [] => [(k, v)]
  | (a, x) :: l => if a = k then (k, v) :: l else if ltK k a then (k, v) :: (a, x) :: l else (a, x) :: putL k v l
def delL (k : ByteArray) (l : List Kv) : List Kv := l.filter fun p => decide (p.1 ≠ k)
def getL (k : ByteArray) (l : List Kv) : Option Int := (l.find? fun p => decide (p.1 = k)).map (·.2)
theorem mem_putL {k : ByteArray} {v : Int} {p : Kv} : ∀ {l : List Kv}, Rising l → (p ∈ putL k v l ↔ p = (k, v) ∨ (p ∈ l ∧ p.1 ≠ k))
  | [], _ => by simp [putL]
  | (a, x) :: l, h => by
    unfold Rising at h
    rw [List.pairwise_cons] at h
    obtain ⟨h1, h2⟩ := h
    unfold putL
    by_cases e : a = k
    · rw [if_pos e]
      subst e
      simp only [List.mem_cons]
      constructor
      · rintro (rfl | hp)
        · exact .inl rfl
        · exact .inr ⟨.inr hp, (ltK_ne (h1 p hp)).symm⟩
      · rintro (rfl | ⟨rfl | hp, hne⟩)
        · exact .inl rfl
        · exact absurd rfl hne
        · exact .inr hp
    · rw [if_neg e]
      by_cases hk : ltK k a = true
      · rw [if_pos hk]
        simp only [List.mem_cons]
        constructor
        · rintro (rfl | rfl | hp)
          · exact .inl rfl
          · exact .inr ⟨.inl rfl, e⟩
          · exact .inr ⟨.inr hp, (ltK_ne (ltK_trans hk (h1 p hp))).symm⟩
        · rintro (rfl | ⟨rfl | hp, _⟩)
          · exact .inl rfl
          · exact .inr (.inl rfl)
          · exact .inr (.inr hp)
      · rw [if_neg hk]
        simp only [List.mem_cons]
        rw [mem_putL h2]
        constructor
        · rintro (rfl | rfl | ⟨hp, hne⟩)
          · exact .inr ⟨.inl rfl, e⟩
          · exact .inl rfl
          · exact .inr ⟨.inr hp, hne⟩
        · rintro (rfl | ⟨rfl | hp, hne⟩)
          · exact .inr (.inl rfl)
          · exact .inl rfl
          · exact .inr (.inr ⟨hp, hne⟩)
theorem rising_put {k : ByteArray} {v : Int} : ∀ {l : List Kv}, Rising l → Rising (putL k v l)
  | [], _ => by simp [putL, Rising]
  | (a, x) :: l, h => by
    have h0 := h
    unfold Rising at h
    rw [List.pairwise_cons] at h
    obtain ⟨h1, h2⟩ := h
    unfold putL
    by_cases e : a = k
    · rw [if_pos e]
      subst e
      exact List.pairwise_cons.2 ⟨h1, h2⟩
    · rw [if_neg e]
      by_cases hk : ltK k a = true
      · rw [if_pos hk]
        refine List.pairwise_cons.2 ⟨fun p hp => ?_, h0⟩
        rcases List.mem_cons.1 hp with rfl | hp
        · exact hk
        · exact ltK_trans hk (h1 p hp)
      · rw [if_neg hk]
        have hka : ltK a k = true := by
          cases h3 : ltK a k with
          | true => rfl
          | false => exact absurd (ltK_total h3 (by simpa using hk)) e
        refine List.pairwise_cons.2 ⟨fun p hp => ?_, rising_put h2⟩
        rcases (mem_putL h2).1 hp with rfl | ⟨hp, _⟩
        · exact hka
        · exact h1 p hp
theorem rising_del {k : ByteArray} {l : List Kv} (h : Rising l) : Rising (delL k l) := h.sublist List.filter_sublist
theorem mem_delL {k : ByteArray} {p : Kv} {l : List Kv} : p ∈ delL k l ↔ p ∈ l ∧ p.1 ≠ k := by simp [delL]
theorem rising_one {l : List Kv} (h : Rising l) {k : ByteArray} {v x : Int} (h1 : (k, v) ∈ l) (h2 : (k, x) ∈ l) : v = x := by
  induction l with
  | nil => cases h1
  | cons p l ih =>
    unfold Rising at h
    rw [List.pairwise_cons] at h
    rcases List.mem_cons.1 h1 with e1 | g1
    · rcases List.mem_cons.1 h2 with e2 | g2
      · rw [← e1] at e2
        cases e2
        rfl
      · have := h.1 _ g2
        rw [← e1, ltK_irrefl] at this
        cases this
    · rcases List.mem_cons.1 h2 with e2 | g2
      · have := h.1 _ g1
        rw [← e2, ltK_irrefl] at this
        cases this
      · exact ih h.2 g1 g2
theorem getL_some {l : List Kv} (h : Rising l) {k : ByteArray} {v : Int} : getL k l = some v ↔ (k, v) ∈ l := by
  unfold getL
  constructor
  · intro e
    cases hf : l.find? fun p => decide (p.1 = k) with
    | none => rw [hf] at e; cases e
    | some p =>
      rw [hf] at e
      have hm := List.mem_of_find?_eq_some hf
      have hp := List.find?_some hf
      simp at hp e
      obtain ⟨a, x⟩ := p
      simp at hp e
      subst hp e
      exact hm
  · intro hm
    cases hf : l.find? fun p => decide (p.1 = k) with
    | none =>
      rw [List.find?_eq_none] at hf
      exact absurd (hf _ hm) (by simp)
    | some p =>
      have hm2 := List.mem_of_find?_eq_some hf
      have hp := List.find?_some hf
      simp at hp
      obtain ⟨a, x⟩ := p
      simp at hp
      subst hp
      simp [rising_one h hm2 hm]
/-- Two such lists that have the same pairs are the same. -/
theorem rising_ext : ∀ {l m : List Kv}, Rising l → Rising m → (∀ p, p ∈ l ↔ p ∈ m) → l = m
  | [], [], _, _, _ => rfl
  | [], q :: m, _, _, h => absurd ((h q).2 List.mem_cons_self) (by simp)
  | p :: l, [], _, _, h => absurd ((h p).1 List.mem_cons_self) (by simp)
  | p :: l, q :: m, hl, hm, h => by
    unfold Rising at hl hm
    rw [List.pairwise_cons] at hl hm
    have e : p = q := by
      rcases List.mem_cons.1 ((h p).1 List.mem_cons_self) with e | h1
      · exact e
      · rcases List.mem_cons.1 ((h q).2 List.mem_cons_self) with e | h2
        · exact e.symm
        · have := ltK_asymm (hm.1 p h1)
          rw [hl.1 q h2] at this
          cases this
    subst e
    rw [rising_ext hl.2 hm.2 fun r => ?_]
    constructor
    · intro hr
      rcases List.mem_cons.1 ((h r).1 (List.mem_cons_of_mem _ hr)) with e | h3
      · subst e; have := hl.1 r hr; rw [ltK_irrefl] at this; cases this
      · exact h3
    · intro hr
      rcases List.mem_cons.1 ((h r).2 (List.mem_cons_of_mem _ hr)) with e | h3
      · subst e; have := hm.1 r hr; rw [ltK_irrefl] at this; cases this
      · exact h3
end Go.Proofs.Ytncblaofgdcfmaa
