/- Filters over lists of places alone: nothing of the program is run here. Conditions: none. -/
import Derived.Test.YtpjmhiokhoplmaaHashM
namespace Go.Proofs.Ytpjmhiokhoplmaa

/-- The place of a text's k-th hash. -/
def placeN (seed : Nat) (l : List UInt8) (k : Nat) : Nat := ofN ((seed + k) % 18446744073709551616) l % 512
/-- A text's three places. -/
def pls (seed : Nat) (l : List UInt8) : List Nat := [placeN seed l 0, placeN seed l 1, placeN seed l 2]
/-- Are all these set? -/
def hasS (S ps : List Nat) : Bool := ps.all fun p => decide (p ∈ S)
def insS (S : List Nat) (p : Nat) : List Nat := if p ∈ S then S else S ++ [p]
/-- All these are set. -/
def addS (S ps : List Nat) : List Nat := ps.foldl insS S
/-- Places of a filter: no two the same, each below 512. -/
def Good (S : List Nat) : Prop := S.Nodup ∧ ∀ p ∈ S, p < 512

theorem place_lt (seed : Nat) (l : List UInt8) (k : Nat) : placeN seed l k < 512 := Nat.mod_lt _ (by decide)
theorem pls_lt (seed : Nat) (l : List UInt8) : ∀ p ∈ pls seed l, p < 512 := by
  intro p hp
  unfold pls at hp
  simp only [List.mem_cons, List.not_mem_nil, or_false] at hp
  rcases hp with rfl | rfl | rfl <;> exact place_lt _ _ _
theorem pls_len (seed : Nat) (l : List UInt8) : (pls seed l).length = 3 := rfl
theorem hasS_iff (S ps : List Nat) : hasS S ps = true ↔ ∀ p ∈ ps, p ∈ S := by
  unfold hasS
  simp [List.all_eq_true]
theorem mem_ins (S : List Nat) (p q : Nat) : q ∈ insS S p ↔ q ∈ S ∨ q = p := by
  unfold insS
  split
  · rename_i h
    constructor
    · exact .inl
    · rintro (h1 | rfl)
      · exact h1
      · exact h
  · simp
theorem mem_add : ∀ (ps S : List Nat) (q : Nat), q ∈ addS S ps ↔ q ∈ S ∨ q ∈ ps
  | [], S, q => by simp [addS]
  | p :: ps, S, q => by
    show q ∈ addS (insS S p) ps ↔ _
    rw [mem_add ps, mem_ins]
    simp [or_assoc]
theorem nodup_ins {S : List Nat} (h : S.Nodup) (p : Nat) : (insS S p).Nodup := by
  unfold insS
  split
  · exact h
  · rename_i hn
    rw [List.nodup_append]
    refine ⟨h, by simp, ?_⟩
    intro a ha b hb e
    simp only [List.mem_singleton] at hb
    subst hb
    subst e
    exact hn ha
theorem nodup_add : ∀ (ps : List Nat) {S : List Nat}, S.Nodup → (addS S ps).Nodup
  | [], _, h => h
  | p :: ps, _, h => nodup_add ps (nodup_ins h p)
theorem good_nil : Good [] := ⟨List.nodup_nil, fun p hp => by cases hp⟩
theorem good_add {S : List Nat} (h : Good S) (seed : Nat) (l : List UInt8) : Good (addS S (pls seed l)) :=
  ⟨nodup_add _ h.1, fun p hp => ((mem_add _ _ _).1 hp).elim (h.2 p) (pls_lt _ _ p)⟩
theorem len_ins (S : List Nat) (p : Nat) : S.length ≤ (insS S p).length ∧ (insS S p).length ≤ S.length + 1 := by
  unfold insS
  split
  · omega
  · simp
theorem len_add : ∀ (ps S : List Nat), S.length ≤ (addS S ps).length ∧ (addS S ps).length ≤ S.length + ps.length
  | [], S => by simp [addS]
  | p :: ps, S => by
    have h1 := len_ins S p
    have h2 := len_add ps (insS S p)
    have h3 : addS S (p :: ps) = addS (insS S p) ps := rfl
    rw [h3, List.length_cons]
    omega
theorem add_had : ∀ (ps S : List Nat), hasS S ps = true → addS S ps = S
  | [], _, _ => rfl
  | p :: ps, S, h => by
    rw [hasS_iff] at h
    have h1 : insS S p = S := if_pos (h p (List.mem_cons_self))
    show addS (insS S p) ps = S
    rw [h1]
    exact add_had ps S ((hasS_iff _ _).2 fun q hq => h q (List.mem_cons_of_mem _ hq))
theorem add_not : ∀ (ps S : List Nat), hasS S ps = false → S.length < (addS S ps).length
  | [], _, h => by cases h
  | p :: ps, S, h => by
    have h3 : addS S (p :: ps) = addS (insS S p) ps := rfl
    rw [h3]
    by_cases hp : p ∈ S
    · have h1 : insS S p = S := if_pos hp
      rw [h1]
      refine add_not ps S ?_
      have : hasS S (p :: ps) = (decide (p ∈ S) && hasS S ps) := rfl
      rw [this, decide_eq_true hp, Bool.true_and] at h
      exact h
    · have h1 : insS S p = S ++ [p] := if_neg hp
      have h2 := (len_add ps (insS S p)).1
      rw [h1, List.length_append] at h2
      rw [h1]
      simp only [List.length_singleton] at h2
      omega
/-- A text was there just if adding it sets no more places. -/
theorem had_iff (S ps : List Nat) : (((addS S ps).length : Int) == (S.length : Int)) = hasS S ps := by
  cases h : hasS S ps
  · have := add_not ps S h
    exact beq_eq_false_iff_ne.2 (by omega)
  · rw [add_had ps S h]
    simp
theorem has_add (S ps : List Nat) : hasS (addS S ps) ps = true := (hasS_iff _ _).2 fun _ hp => (mem_add _ _ _).2 (.inr hp)
theorem has_sub {S T ps : List Nat} (h : ∀ p ∈ S, p ∈ T) (hs : hasS S ps = true) : hasS T ps = true := (hasS_iff _ _).2 fun p hp => h p ((hasS_iff _ _).1 hs p hp)
theorem has_same {S T : List Nat} (h : ∀ p, p ∈ S ↔ p ∈ T) (ps : List Nat) : hasS S ps = hasS T ps := by
  unfold hasS
  congr 1
  funext p
  exact decide_eq_decide.2 (h p)
theorem has_nil (seed : Nat) (l : List UInt8) : hasS [] (pls seed l) = false := rfl
theorem len_sub : ∀ {S T : List Nat}, S.Nodup → (∀ p ∈ S, p ∈ T) → S.length ≤ T.length
  | [], _, _, _ => Nat.zero_le _
  | x :: S, T, hn, h => by
    rw [List.nodup_cons] at hn
    have hx : x ∈ T := h x List.mem_cons_self
    have h1 := len_sub (S := S) (T := T.erase x) hn.2 fun p hp => (List.mem_erase_of_ne (fun (e : p = x) => hn.1 (e ▸ hp))).2 (h p (List.mem_cons_of_mem _ hp))
    rw [List.length_erase_of_mem hx] at h1
    have h2 : 0 < T.length := List.length_pos_of_mem hx
    rw [List.length_cons]
    omega
theorem len_same {S T : List Nat} (hS : S.Nodup) (hT : T.Nodup) (h : ∀ p, p ∈ S ↔ p ∈ T) : S.length = T.length :=
  Nat.le_antisymm (len_sub hS fun p => (h p).1) (len_sub hT fun p => (h p).2)
theorem good_len {S : List Nat} (h : Good S) : S.length ≤ 512 := by
  have := len_sub h.1 (T := List.range 512) fun p hp => List.mem_range.2 (h.2 p hp)
  rwa [List.length_range] at this
/-- Where all 512 places are set, every text is there. -/
theorem full_has {S : List Nat} (h : Good S) (hl : 512 ≤ S.length) (seed : Nat) (l : List UInt8) : hasS S (pls seed l) = true := by
  refine (hasS_iff _ _).2 fun p hp => ?_
  by_cases hm : p ∈ S
  · exact hm
  · have h1 : Good (p :: S) := ⟨List.nodup_cons.2 ⟨hm, h.1⟩, fun q hq => by
      rcases List.mem_cons.1 hq with rfl | h2
      · exact pls_lt _ _ _ hp
      · exact h.2 q h2⟩
    have := good_len h1
    rw [List.length_cons] at this
    omega

/-- All these texts, one behind the other. -/
def addAll (seed : Nat) (S : List Nat) (ls : List (List UInt8)) : List Nat := ls.foldl (fun S l => addS S (pls seed l)) S
theorem mem_all (seed : Nat) : ∀ (ls : List (List UInt8)) (S : List Nat) (q : Nat), q ∈ addAll seed S ls ↔ q ∈ S ∨ ∃ l ∈ ls, q ∈ pls seed l
  | [], S, q => by simp [addAll]
  | l :: ls, S, q => by
    show q ∈ addAll seed (addS S (pls seed l)) ls ↔ _
    rw [mem_all seed ls, mem_add]
    simp [or_assoc]
theorem good_all (seed : Nat) : ∀ (ls : List (List UInt8)) {S : List Nat}, Good S → Good (addAll seed S ls)
  | [], _, h => h
  | l :: ls, _, h => good_all seed ls (good_add h seed l)
theorem len_all (seed : Nat) : ∀ (ls : List (List UInt8)) (S : List Nat), S.length ≤ (addAll seed S ls).length ∧ (addAll seed S ls).length ≤ S.length + 3 * ls.length
  | [], S => by simp [addAll]
  | l :: ls, S => by
    have h1 := len_add (pls seed l) S
    have h2 := len_all seed ls (addS S (pls seed l))
    have h3 : addAll seed S (l :: ls) = addAll seed (addS S (pls seed l)) ls := rfl
    rw [pls_len] at h1
    rw [h3, List.length_cons]
    omega
theorem all_snoc (seed : Nat) (S : List Nat) (ls : List (List UInt8)) (l : List UInt8) : addAll seed S (ls ++ [l]) = addS (addAll seed S ls) (pls seed l) := by
  simp only [addAll, List.foldl_append, List.foldl_cons, List.foldl_nil]
theorem has_all (seed : Nat) (S : List Nat) (ls : List (List UInt8)) (l : List UInt8) (h : l ∈ ls) : hasS (addAll seed S ls) (pls seed l) = true :=
  (hasS_iff _ _).2 fun p hp => (mem_all seed ls S p).2 (.inr ⟨l, h, hp⟩)
end Go.Proofs.Ytpjmhiokhoplmaa
