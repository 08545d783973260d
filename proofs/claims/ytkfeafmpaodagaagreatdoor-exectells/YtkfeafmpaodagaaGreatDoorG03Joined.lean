/- Hashes of texts under a seed, over numbers and lists alone: nothing of the program is run here. Conditions: where numbers are spoken of, they are below 2 to the 64th. Filters over lists of places alone: nothing of the program is run here. Conditions: none. Sketches over lists of counters alone: nothing of the program is run here. Conditions: none. Judges over lists of places and counters alone: nothing of the program is run here. Conditions: none. Slabs over lists of chunks alone: nothing of the program is run here. Conditions: none. Lists of keys in two rows, over lists alone: nothing of the program is run here. Conditions: none. Tables of texts over lists alone: nothing of the program is run here. Conditions: none. -/
import Derived.Laws.Bits64
import Derived.KernelRfl
import Derived.Test.YtkfeafmpaodagaaGreatDoorG00Joined
namespace Go.Proofs.YtkfeafmpaodagaaGreatDoor

/-- Exclusive or with itself, shifted to the right by s places. -/
def xsh (s n : Nat) : Nat := n ^^^ n / 2 ^ s
/-- Times c, going round. -/
def mul (c n : Nat) : Nat := n * c % 18446744073709551616
def mixN (n : Nat) : Nat := xsh 31 (mul 10723151780598845931 (xsh 27 (mul 13787848793156543929 (xsh 30 n))))
def stepN (h : Nat) (c : UInt8) : Nat := mul 1099511628211 (h ^^^ c.toNat)
def runN (h : Nat) (l : List UInt8) : Nat := l.foldl stepN h
def ofN (seed : Nat) (l : List UInt8) : Nat := mixN (runN (mixN seed) l)

theorem xor_lt {a b : Nat} (ha : a < 18446744073709551616) (hb : b < 18446744073709551616) : a ^^^ b < 18446744073709551616 := by
  have h : a ^^^ b < 2 ^ 64 := Nat.xor_lt_two_pow (by omega) (by omega)
  omega
theorem xsh_lt (s : Nat) {n : Nat} (h : n < 18446744073709551616) : xsh s n < 18446744073709551616 :=
  xor_lt h (Nat.lt_of_le_of_lt (Nat.div_le_self _ _) h)
theorem mul_lt (c n : Nat) : mul c n < 18446744073709551616 := Nat.mod_lt _ (by decide)
theorem mix_lt (n : Nat) : mixN n < 18446744073709551616 := xsh_lt _ (mul_lt _ _)
theorem step_lt (h : Nat) (c : UInt8) : stepN h c < 18446744073709551616 := mul_lt _ _

theorem xor_div (a b s : Nat) : (a ^^^ b) / 2 ^ s = a / 2 ^ s ^^^ b / 2 ^ s := by
  rw [← Nat.shiftRight_eq_div_pow, ← Nat.shiftRight_eq_div_pow, ← Nat.shiftRight_eq_div_pow, Nat.shiftRight_xor_distrib]
theorem xor_eq_zero {a b : Nat} (h : a ^^^ b = 0) : a = b := by
  have h2 : a ^^^ b ^^^ b = b := by rw [h, Nat.zero_xor]
  rw [Nat.xor_assoc, Nat.xor_self, Nat.xor_zero] at h2
  exact h2
theorem xsh_inj (s : Nat) (hs : 1 ≤ s) {a b : Nat} (h : xsh s a = xsh s b) : a = b := by
  apply xor_eq_zero
  have h1 : a ^^^ b = (a ^^^ b) / 2 ^ s := by
    unfold xsh at h
    rw [xor_div]
    have h2 : (a ^^^ a / 2 ^ s) ^^^ (b ^^^ b / 2 ^ s) = 0 := by rw [h, Nat.xor_self]
    apply xor_eq_zero
    rw [← h2]
    generalize a / 2 ^ s = x
    generalize b / 2 ^ s = y
    rw [Nat.xor_assoc, Nat.xor_assoc]
    congr 1
    rw [← Nat.xor_assoc, ← Nat.xor_assoc, Nat.xor_comm b x]
  have h3 : (a ^^^ b) / 2 ^ s ≤ (a ^^^ b) / 2 := Nat.div_le_div_left (by
    have := Nat.pow_le_pow_right (show 0 < 2 by decide) hs
    omega) (by decide)
  omega
theorem mul_inv (c i : Nat) (hi : c * i % 18446744073709551616 = 1) {n : Nat} (h : n < 18446744073709551616) : mul i (mul c n) = n := by
  unfold mul
  rw [Nat.mod_mul_mod, Nat.mul_assoc, ← Nat.mul_mod_mod, hi, Nat.mul_one]
  exact Nat.mod_eq_of_lt h
theorem mul_inj (c i : Nat) (hi : c * i % 18446744073709551616 = 1) {a b : Nat} (ha : a < 18446744073709551616) (hb : b < 18446744073709551616) (h : mul c a = mul c b) : a = b := by
  rw [← mul_inv c i hi ha, ← mul_inv c i hi hb, h]

/-- Two numbers have one Mix just if they are the same. -/
theorem mix_inj {a b : Nat} (ha : a < 18446744073709551616) (hb : b < 18446744073709551616) (h : mixN a = mixN b) : a = b := by
  unfold mixN at h
  have h1 := xsh_inj 31 (by decide) h
  have h2 := mul_inj 10723151780598845931 3573116690164977347 (by decide) (xsh_lt _ (mul_lt _ _)) (xsh_lt _ (mul_lt _ _)) h1
  have h3 := xsh_inj 27 (by decide) h2
  have h4 := mul_inj 13787848793156543929 10871156337175269513 (by decide) (xsh_lt _ ha) (xsh_lt _ hb) h3
  exact xsh_inj 30 (by decide) h4
theorem byte_lt (c : UInt8) : c.toNat < 18446744073709551616 := Nat.lt_of_lt_of_le c.toNat_lt (by decide)
theorem step_inj {a b : Nat} (c : UInt8) (ha : a < 18446744073709551616) (hb : b < 18446744073709551616) (h : stepN a c = stepN b c) : a = b := by
  have h1 := mul_inj 1099511628211 14886173955864302971 (by decide) (xor_lt ha (byte_lt c)) (xor_lt hb (byte_lt c)) h
  have h2 := congrArg (· ^^^ c.toNat) h1
  simp only [Nat.xor_assoc, Nat.xor_self, Nat.xor_zero] at h2
  exact h2
theorem step_byte {a : Nat} (c d : UInt8) (ha : a < 18446744073709551616) (h : stepN a c = stepN a d) : c = d := by
  have h1 := mul_inj 1099511628211 14886173955864302971 (by decide) (xor_lt ha (byte_lt c)) (xor_lt ha (byte_lt d)) h
  have h2 := congrArg (a ^^^ ·) h1
  simp only [← Nat.xor_assoc, Nat.xor_self, Nat.zero_xor] at h2
  exact UInt8.toNat_inj.1 h2
theorem run_lt : ∀ (l : List UInt8) {h : Nat}, h < 18446744073709551616 → runN h l < 18446744073709551616
  | [], _, hh => hh
  | c :: l, h, _ => run_lt l (step_lt h c)
theorem run_inj : ∀ (l : List UInt8) {a b : Nat}, a < 18446744073709551616 → b < 18446744073709551616 → runN a l = runN b l → a = b
  | [], _, _, _, _, h => h
  | c :: l, a, b, ha, hb, h => step_inj c ha hb (run_inj l (step_lt a c) (step_lt b c) h)
theorem run_app (h : Nat) (k l : List UInt8) : runN h (k ++ l) = runN (runN h k) l := by unfold runN; rw [List.foldl_append]
theorem run_set : ∀ (l : List UInt8) (k : Nat) (hk : k < l.length) (c : UInt8) {h : Nat}, h < 18446744073709551616 → l[k] ≠ c → runN h l ≠ runN h (l.set k c)
  | x :: l, 0, _, c, h, hh, hne => fun e => hne (step_byte x c hh (run_inj l (step_lt h x) (step_lt h c) e))
  | x :: l, k + 1, hk, c, h, hh, hne => run_set l k (by simpa using hk) c (step_lt h x) (by simpa using hne)

theorem of_lt (seed : Nat) (l : List UInt8) : ofN seed l < 18446744073709551616 := mix_lt _
/-- Of two texts that are the same but for one byte the hashes under one seed are two. -/
theorem of_set (seed : Nat) (l : List UInt8) (k : Nat) (hk : k < l.length) (c : UInt8) (hne : l[k] ≠ c) : ofN seed l ≠ ofN seed (l.set k c) := fun e =>
  run_set l k hk c (mix_lt seed) hne (mix_inj (run_lt _ (mix_lt _)) (run_lt _ (mix_lt _)) e)
/-- Under two seeds that are not the same any text has two hashes. -/
theorem of_seeds (a b : Nat) (ha : a < 18446744073709551616) (hb : b < 18446744073709551616) (l : List UInt8) (hne : a ≠ b) : ofN a l ≠ ofN b l := fun e =>
  hne (mix_inj ha hb (run_inj l (mix_lt _) (mix_lt _) (mix_inj (run_lt _ (mix_lt _)) (run_lt _ (mix_lt _)) e)))
theorem mix_0 : mixN 0 = 0 := by decide +kernel
theorem mix_1 : mixN 1 = 6238072747940578789 := by decide +kernel
theorem of_0 : ofN 0 [] = 0 := by decide +kernel

/-- The walk's own words: exclusive or with a shift, a product that goes round. -/
theorem walk_xsh (s S n : Nat) (hS : S = 2 ^ s) (h : n < 18446744073709551616) : bits .xor .u64 (n : Int) ((n : Int) / (S : Int)) = ((xsh s n : Nat) : Int) := by
  rw [xorShift_u64 n S h, hS]
  rfl
theorem walk_mul (c n : Nat) : IntKind.u64.wrap ((n : Int) * (c : Int)) = ((mul c n : Nat) : Int) := by
  rw [IntKind.wrap_u64]
  obtain ⟨m, hm⟩ : ∃ m, m = n * c := ⟨_, rfl⟩
  have h1 : (n : Int) * (c : Int) = (m : Int) := by rw [hm, Int.natCast_mul]
  unfold mul
  rw [h1, ← hm]
  omega
theorem walk_xor (h c : Nat) (hh : h < 18446744073709551616) (hc : c < 18446744073709551616) : bits .xor .u64 (h : Int) (c : Int) = ((h ^^^ c : Nat) : Int) := bits_xor_u64_nat h c hh hc
end Go.Proofs.YtkfeafmpaodagaaGreatDoor

namespace Go.Proofs.YtkfeafmpaodagaaGreatDoor

/-- The place of a text's k-th hash. -/
def placeN (seed : Nat) (l : List UInt8) (k : Nat) : Nat := ofN ((seed + k) % 18446744073709551616) l % 512
/-- A text's three places. -/
def pls (seed : Nat) (l : List UInt8) : List Nat := [placeN seed l 0, placeN seed l 1, placeN seed l 2]
/-- Are all these set? -/
def hasS (S ps : List Nat) : Bool := ps.all fun p => decide (p ∈ S)
def insS (S : List Nat) (p : Nat) : List Nat := if p ∈ S then S else S ++ [p]
/-- All these are set. -/
def addS (S ps : List Nat) : List Nat := ps.foldl insS S
/-- Places of a filter: no two the same, each below 512. -/
def Good (S : List Nat) : Prop := S.Nodup ∧ ∀ p ∈ S, p < 512

theorem place_lt (seed : Nat) (l : List UInt8) (k : Nat) : placeN seed l k < 512 := Nat.mod_lt _ (by decide)
theorem pls_lt (seed : Nat) (l : List UInt8) : ∀ p ∈ pls seed l, p < 512 := by
  intro p hp
  unfold pls at hp
  simp only [List.mem_cons, List.not_mem_nil, or_false] at hp
  rcases hp with rfl | rfl | rfl <;> exact place_lt _ _ _
theorem pls_len (seed : Nat) (l : List UInt8) : (pls seed l).length = 3 := rfl
theorem hasS_iff (S ps : List Nat) : hasS S ps = true ↔ ∀ p ∈ ps, p ∈ S := by
  unfold hasS
  simp [List.all_eq_true]
theorem mem_ins (S : List Nat) (p q : Nat) : q ∈ insS S p ↔ q ∈ S ∨ q = p := by
  unfold insS
  split
  · rename_i h
    constructor
    · exact .inl
    · rintro (h1 | rfl)
      · exact h1
      · exact h
  · simp
theorem mem_add : ∀ (ps S : List Nat) (q : Nat), q ∈ addS S ps ↔ q ∈ S ∨ q ∈ ps
  | [], S, q => by simp [addS]
  | p :: ps, S, q => by
    show q ∈ addS (insS S p) ps ↔ _
    rw [mem_add ps, mem_ins]
    simp [or_assoc]
theorem nodup_ins {S : List Nat} (h : S.Nodup) (p : Nat) : (insS S p).Nodup := by
  unfold insS
  split
  · exact h
  · rename_i hn
    rw [List.nodup_append]
    refine ⟨h, by simp, ?_⟩
    intro a ha b hb e
    simp only [List.mem_singleton] at hb
    subst hb
    subst e
    exact hn ha
theorem nodup_add : ∀ (ps : List Nat) {S : List Nat}, S.Nodup → (addS S ps).Nodup
  | [], _, h => h
  | p :: ps, _, h => nodup_add ps (nodup_ins h p)
theorem good_nil : Good [] := ⟨List.nodup_nil, fun p hp => by cases hp⟩
theorem good_add {S : List Nat} (h : Good S) (seed : Nat) (l : List UInt8) : Good (addS S (pls seed l)) :=
  ⟨nodup_add _ h.1, fun p hp => ((mem_add _ _ _).1 hp).elim (h.2 p) (pls_lt _ _ p)⟩
theorem len_ins (S : List Nat) (p : Nat) : S.length ≤ (insS S p).length ∧ (insS S p).length ≤ S.length + 1 := by
  unfold insS
  split
  · omega
  · simp
theorem len_add : ∀ (ps S : List Nat), S.length ≤ (addS S ps).length ∧ (addS S ps).length ≤ S.length + ps.length
  | [], S => by simp [addS]
  | p :: ps, S => by
    have h1 := len_ins S p
    have h2 := len_add ps (insS S p)
    have h3 : addS S (p :: ps) = addS (insS S p) ps := rfl
    rw [h3, List.length_cons]
    omega
theorem add_had : ∀ (ps S : List Nat), hasS S ps = true → addS S ps = S
  | [], _, _ => rfl
  | p :: ps, S, h => by
    rw [hasS_iff] at h
    have h1 : insS S p = S := if_pos (h p (List.mem_cons_self))
    show addS (insS S p) ps = S
    rw [h1]
    exact add_had ps S ((hasS_iff _ _).2 fun q hq => h q (List.mem_cons_of_mem _ hq))
theorem add_not : ∀ (ps S : List Nat), hasS S ps = false → S.length < (addS S ps).length
  | [], _, h => by cases h
  | p :: ps, S, h => by
    have h3 : addS S (p :: ps) = addS (insS S p) ps := rfl
    rw [h3]
    by_cases hp : p ∈ S
    · have h1 : insS S p = S := if_pos hp
      rw [h1]
      refine add_not ps S ?_
      have : hasS S (p :: ps) = (decide (p ∈ S) && hasS S ps) := rfl
      rw [this, decide_eq_true hp, Bool.true_and] at h
      exact h
    · have h1 : insS S p = S ++ [p] := if_neg hp
      have h2 := (len_add ps (insS S p)).1
      rw [h1, List.length_append] at h2
      rw [h1]
      simp only [List.length_singleton] at h2
      omega
/-- A text was there just if adding it sets no more places. -/
theorem had_iff (S ps : List Nat) : (((addS S ps).length : Int) == (S.length : Int)) = hasS S ps := by
  cases h : hasS S ps
  · have := add_not ps S h
    exact beq_eq_false_iff_ne.2 (by omega)
  · rw [add_had ps S h]
    simp
theorem has_add (S ps : List Nat) : hasS (addS S ps) ps = true := (hasS_iff _ _).2 fun _ hp => (mem_add _ _ _).2 (.inr hp)
theorem has_sub {S T ps : List Nat} (h : ∀ p ∈ S, p ∈ T) (hs : hasS S ps = true) : hasS T ps = true := (hasS_iff _ _).2 fun p hp => h p ((hasS_iff _ _).1 hs p hp)
theorem has_same {S T : List Nat} (h : ∀ p, p ∈ S ↔ p ∈ T) (ps : List Nat) : hasS S ps = hasS T ps := by
  unfold hasS
  congr 1
  funext p
  exact decide_eq_decide.2 (h p)
theorem has_nil (seed : Nat) (l : List UInt8) : hasS [] (pls seed l) = false := rfl
theorem len_sub : ∀ {S T : List Nat}, S.Nodup → (∀ p ∈ S, p ∈ T) → S.length ≤ T.length
  | [], _, _, _ => Nat.zero_le _
  | x :: S, T, hn, h => by
    rw [List.nodup_cons] at hn
    have hx : x ∈ T := h x List.mem_cons_self
    have h1 := len_sub (S := S) (T := T.erase x) hn.2 fun p hp => (List.mem_erase_of_ne (fun (e : p = x) => hn.1 (e ▸ hp))).2 (h p (List.mem_cons_of_mem _ hp))
    rw [List.length_erase_of_mem hx] at h1
    have h2 : 0 < T.length := List.length_pos_of_mem hx
    rw [List.length_cons]
    omega
theorem len_same {S T : List Nat} (hS : S.Nodup) (hT : T.Nodup) (h : ∀ p, p ∈ S ↔ p ∈ T) : S.length = T.length :=
  Nat.le_antisymm (len_sub hS fun p => (h p).1) (len_sub hT fun p => (h p).2)
theorem good_len {S : List Nat} (h : Good S) : S.length ≤ 512 := by
  have := len_sub h.1 (T := List.range 512) fun p hp => List.mem_range.2 (h.2 p hp)
  rwa [List.length_range] at this
/-- Where all 512 places are set, every text is there. -/
theorem full_has {S : List Nat} (h : Good S) (hl : 512 ≤ S.length) (seed : Nat) (l : List UInt8) : hasS S (pls seed l) = true := by
  refine (hasS_iff _ _).2 fun p hp => ?_
  by_cases hm : p ∈ S
  · exact hm
  · have h1 : Good (p :: S) := ⟨List.nodup_cons.2 ⟨hm, h.1⟩, fun q hq => by
      rcases List.mem_cons.1 hq with rfl | h2
      · exact pls_lt _ _ _ hp
      · exact h.2 q h2⟩
    have := good_len h1
    rw [List.length_cons] at this
    omega

/-- All these texts, one behind the other. -/
def addAll (seed : Nat) (S : List Nat) (ls : List (List UInt8)) : List Nat := ls.foldl (fun S l => addS S (pls seed l)) S
theorem mem_all (seed : Nat) : ∀ (ls : List (List UInt8)) (S : List Nat) (q : Nat), q ∈ addAll seed S ls ↔ q ∈ S ∨ ∃ l ∈ ls, q ∈ pls seed l
  | [], S, q => by simp [addAll]
  | l :: ls, S, q => by
    show q ∈ addAll seed (addS S (pls seed l)) ls ↔ _
    rw [mem_all seed ls, mem_add]
    simp [or_assoc]
theorem good_all (seed : Nat) : ∀ (ls : List (List UInt8)) {S : List Nat}, Good S → Good (addAll seed S ls)
  | [], _, h => h
  | l :: ls, _, h => good_all seed ls (good_add h seed l)
theorem len_all (seed : Nat) : ∀ (ls : List (List UInt8)) (S : List Nat), S.length ≤ (addAll seed S ls).length ∧ (addAll seed S ls).length ≤ S.length + 3 * ls.length
  | [], S => by simp [addAll]
  | l :: ls, S => by
    have h1 := len_add (pls seed l) S
    have h2 := len_all seed ls (addS S (pls seed l))
    have h3 : addAll seed S (l :: ls) = addAll seed (addS S (pls seed l)) ls := rfl
    rw [pls_len] at h1
    rw [h3, List.length_cons]
    omega
theorem all_snoc (seed : Nat) (S : List Nat) (ls : List (List UInt8)) (l : List UInt8) : addAll seed S (ls ++ [l]) = addS (addAll seed S ls) (pls seed l) := by
  simp only [addAll, List.foldl_append, List.foldl_cons, List.foldl_nil]
theorem has_all (seed : Nat) (S : List Nat) (ls : List (List UInt8)) (l : List UInt8) (h : l ∈ ls) : hasS (addAll seed S ls) (pls seed l) = true :=
  (hasS_iff _ _).2 fun p hp => (mem_all seed ls S p).2 (.inr ⟨l, h, hp⟩)
end Go.Proofs.YtkfeafmpaodagaaGreatDoor

namespace Go.Proofs.YtkfeafmpaodagaaGreatDoor

/-- The place of a text in a row, among all counters, row behind row. -/
def plc (sd : Nat) (l : List UInt8) (i : Nat) : Nat := i * 64 + ofN ((sd + i) % 18446744073709551616) l % 64
def plcs (sd : Nat) (l : List UInt8) : List Nat := [plc sd l 0, plc sd l 1, plc sd l 2, plc sd l 3]
/-- One more, up to 15. -/
def inc (C : List Nat) (p : Nat) : List Nat := if C.getD p 0 < 15 then C.set p (C.getD p 0 + 1) else C
def incs (C ps : List Nat) : List Nat := ps.foldl inc C
/-- Counters and age. -/
abbrev St := List Nat × Nat
def fresh : St := (List.replicate 256 0, 0)
def halved (st : St) : Bool := decide (640 ≤ st.2 + 1)
def addK (sd : Nat) (st : St) (l : List UInt8) : St := if halved st then ((incs st.1 (plcs sd l)).map (· / 2), 320) else (incs st.1 (plcs sd l), st.2 + 1)
/-- The least of some counters. -/
def cnt (C ps : List Nat) : Nat := ps.foldl (fun n p => min n (C.getD p 0)) 15
structure GoodK (st : St) : Prop where
  len : st.1.length = 256
  le : ∀ c ∈ st.1, c ≤ 15
  age : st.2 < 640

theorem plc_row (sd : Nat) (l : List UInt8) (i : Nat) : i * 64 ≤ plc sd l i ∧ plc sd l i < i * 64 + 64 := by
  unfold plc
  have := Nat.mod_lt (ofN ((sd + i) % 18446744073709551616) l) (show 0 < 64 by decide)
  omega
theorem plcs_lt (sd : Nat) (l : List UInt8) : ∀ p ∈ plcs sd l, p < 256 := by
  have h0 := plc_row sd l 0
  have h1 := plc_row sd l 1
  have h2 := plc_row sd l 2
  have h3 := plc_row sd l 3
  intro p hp
  simp only [plcs, List.mem_cons, List.not_mem_nil, or_false] at hp
  omega
theorem plcs_nodup (sd : Nat) (l : List UInt8) : (plcs sd l).Nodup := by
  have h0 := plc_row sd l 0
  have h1 := plc_row sd l 1
  have h2 := plc_row sd l 2
  have h3 := plc_row sd l 3
  simp only [plcs, List.nodup_cons, List.mem_cons, List.not_mem_nil, or_false, List.nodup_nil, not_false_eq_true, and_true]
  omega
theorem inc_len (C : List Nat) (p : Nat) : (inc C p).length = C.length := by
  unfold inc
  split
  · rw [List.length_set]
  · rfl
theorem incs_len : ∀ (ps C : List Nat), (incs C ps).length = C.length
  | [], _ => rfl
  | p :: ps, C => (incs_len ps (inc C p)).trans (inc_len C p)
theorem inc_get (C : List Nat) (p q : Nat) (hp : p < C.length) (hC : ∀ c ∈ C, c ≤ 15) : (inc C p).getD q 0 = if p = q then min (C.getD q 0 + 1) 15 else C.getD q 0 := by
  have hle : C.getD p 0 ≤ 15 := by
    simp only [List.getD, List.getElem?_eq_getElem hp, Option.getD_some]
    exact hC _ (List.getElem_mem hp)
  unfold inc
  by_cases e : p = q
  · subst e
    rw [if_pos rfl]
    split
    · simp only [List.getD, List.getElem?_set_self hp, Option.getD_some]
      simp only [List.getD] at *
      omega
    · omega
  · rw [if_neg e]
    split
    · simp only [List.getD, List.getElem?_set_ne e]
    · rfl
theorem inc_le (C : List Nat) (p : Nat) (hC : ∀ c ∈ C, c ≤ 15) : ∀ c ∈ inc C p, c ≤ 15 := by
  intro c hc
  unfold inc at hc
  split at hc
  · rcases List.mem_or_eq_of_mem_set hc with h | h
    · exact hC c h
    · omega
  · exact hC c hc
theorem incs_le : ∀ (ps C : List Nat), (∀ c ∈ C, c ≤ 15) → ∀ c ∈ incs C ps, c ≤ 15
  | [], _, h => h
  | p :: ps, C, h => incs_le ps (inc C p) (inc_le C p h)
theorem incs_get : ∀ (ps C : List Nat) (q : Nat), ps.Nodup → (∀ p ∈ ps, p < C.length) → (∀ c ∈ C, c ≤ 15) → (incs C ps).getD q 0 = if q ∈ ps then min (C.getD q 0 + 1) 15 else C.getD q 0
  | [], C, q, _, _, _ => by simp [incs]
  | p :: ps, C, q, hn, hl, hC => by
    rw [List.nodup_cons] at hn
    have hp := hl p List.mem_cons_self
    have ih := incs_get ps (inc C p) q hn.2 (fun x hx => by rw [inc_len]; exact hl x (List.mem_cons_of_mem _ hx)) (inc_le C p hC)
    show (incs (inc C p) ps).getD q 0 = _
    rw [ih, inc_get C p q hp hC]
    by_cases e : p = q
    · subst e
      rw [if_neg hn.1, if_pos rfl, if_pos List.mem_cons_self]
    · rw [if_neg e]
      by_cases hq : q ∈ ps
      · rw [if_pos hq, if_pos (List.mem_cons_of_mem _ hq)]
      · rw [if_neg hq, if_neg (fun h => (List.mem_cons.1 h).elim (fun x => e x.symm) hq)]
theorem get_le {C : List Nat} (h : ∀ c ∈ C, c ≤ 15) (q : Nat) : C.getD q 0 ≤ 15 := by
  by_cases hq : q < C.length
  · simp only [List.getD, List.getElem?_eq_getElem hq, Option.getD_some]
    exact h _ (List.getElem_mem hq)
  · simp [List.getD, List.getElem?_eq_none (Nat.le_of_not_lt hq)]
theorem half_get (C : List Nat) (q : Nat) : (C.map (· / 2)).getD q 0 = C.getD q 0 / 2 := by
  simp only [List.getD, List.getElem?_map]
  cases C[q]? <;> rfl
theorem good_fresh : GoodK fresh := ⟨List.length_replicate, fun c hc => by rw [List.eq_of_mem_replicate hc]; omega, by decide⟩
theorem fresh_get (q : Nat) : fresh.1.getD q 0 = 0 := by
  simp only [fresh, List.getD, List.getElem?_replicate]
  split <;> rfl
theorem good_addK {st : St} (h : GoodK st) (sd : Nat) (l : List UInt8) : GoodK (addK sd st l) := by
  unfold addK
  by_cases hh : halved st = true
  · rw [if_pos hh]
    refine ⟨by rw [List.length_map, incs_len]; exact h.len, fun c hc => ?_, show 320 < 640 by decide⟩
    obtain ⟨x, hx, rfl⟩ := List.mem_map.1 hc
    have := incs_le _ _ h.le x hx
    omega
  · rw [if_neg hh]
    refine ⟨by rw [incs_len]; exact h.len, incs_le _ _ h.le, ?_⟩
    simp only [halved, decide_eq_true_eq] at hh
    show st.2 + 1 < 640
    omega
/-- What one addition does to a counter. -/
theorem addK_get {st : St} (h : GoodK st) (sd : Nat) (l : List UInt8) (q : Nat) :
    (addK sd st l).1.getD q 0 = if halved st then (if q ∈ plcs sd l then min (st.1.getD q 0 + 1) 15 else st.1.getD q 0) / 2 else (if q ∈ plcs sd l then min (st.1.getD q 0 + 1) 15 else st.1.getD q 0) := by
  have hi := incs_get (plcs sd l) st.1 q (plcs_nodup sd l) (fun p hp => by rw [h.len]; exact plcs_lt sd l p hp) h.le
  unfold addK
  by_cases hh : halved st = true
  · rw [if_pos hh, if_pos hh]
    show ((incs st.1 (plcs sd l)).map (· / 2)).getD q 0 = _
    rw [half_get, hi]
  · rw [if_neg hh, if_neg hh]
    exact hi
theorem addK_age (sd : Nat) (st : St) (l : List UInt8) : (addK sd st l).2 = if halved st then 320 else st.2 + 1 := by
  unfold addK
  split <;> rfl

theorem cnt_fold : ∀ (ps C : List Nat) (n : Nat), ps.foldl (fun n p => min n (C.getD p 0)) n ≤ n ∧ (∀ p ∈ ps, ps.foldl (fun n p => min n (C.getD p 0)) n ≤ C.getD p 0) ∧ ∀ m, m ≤ n → (∀ p ∈ ps, m ≤ C.getD p 0) → m ≤ ps.foldl (fun n p => min n (C.getD p 0)) n
  | [], _, n => ⟨Nat.le_refl _, (fun p hp => (List.not_mem_nil hp).elim), fun m hm _ => hm⟩
  | x :: ps, C, n => by
    obtain ⟨h1, h2, h3⟩ := cnt_fold ps C (min n (C.getD x 0))
    refine ⟨Nat.le_trans h1 (Nat.min_le_left _ _), fun p hp => ?_, fun m hm hall => h3 m (Nat.le_min.2 ⟨hm, hall x List.mem_cons_self⟩) fun p hp => hall p (List.mem_cons_of_mem _ hp)⟩
    rcases List.mem_cons.1 hp with rfl | hp
    · exact Nat.le_trans h1 (Nat.min_le_right _ _)
    · exact h2 p hp
theorem cnt_le (C ps : List Nat) : cnt C ps ≤ 15 := (cnt_fold ps C 15).1
theorem cnt_le_of (C ps : List Nat) (p : Nat) (hp : p ∈ ps) : cnt C ps ≤ C.getD p 0 := (cnt_fold ps C 15).2.1 p hp
theorem le_cnt (C ps : List Nat) (m : Nat) (hm : m ≤ 15) (h : ∀ p ∈ ps, m ≤ C.getD p 0) : m ≤ cnt C ps := (cnt_fold ps C 15).2.2 m hm h
theorem cnt_all (C : List Nat) (sd : Nat) (l : List UInt8) (v : Nat) (hv : v ≤ 15) (h : ∀ p ∈ plcs sd l, C.getD p 0 = v) : cnt C (plcs sd l) = v :=
  Nat.le_antisymm (by rw [← h (plc sd l 0) (by simp [plcs])]; exact cnt_le_of _ _ _ (by simp [plcs])) (le_cnt _ _ _ hv fun p hp => by rw [h p hp]; exact Nat.le_refl _)
theorem cnt_fresh (sd : Nat) (l : List UInt8) : cnt fresh.1 (plcs sd l) = 0 := cnt_all _ _ _ 0 (by decide) fun p _ => fresh_get p
/-- The chapter's example. -/
theorem cnt_two (sd : Nat) (l : List UInt8) : cnt (addK sd (addK sd fresh l) l).1 (plcs sd l) = 2 ∧ (addK sd (addK sd fresh l) l).2 = 2 ∧ halved fresh = false ∧ halved (addK sd fresh l) = false := by
  have a0 : halved fresh = false := rfl
  have e1 : (addK sd fresh l).2 = 1 := by rw [addK_age, a0]; rfl
  have a1 : halved (addK sd fresh l) = false := by unfold halved; rw [e1]; rfl
  refine ⟨cnt_all _ _ _ 2 (by decide) fun p hp => ?_, ?_, a0, a1⟩
  · rw [addK_get (good_addK good_fresh sd l), a1, addK_get good_fresh, a0, if_pos hp, if_pos hp, fresh_get]
    rfl
  · rw [addK_age, a1, e1]
    rfl

/-- What was added so often has as much, or 15. -/
def Least (st : St) (ps : List Nat) (n : Nat) : Prop := ∀ p ∈ ps, min n 15 ≤ st.1.getD p 0
theorem least_fresh (ps : List Nat) : Least fresh ps 0 := fun p _ => by rw [fresh_get]; exact Nat.min_le_left _ _
theorem least_same {st : St} (h : GoodK st) (sd : Nat) (l : List UInt8) (n : Nat) (hh : halved st = false) (hl : Least st (plcs sd l) n) : Least (addK sd st l) (plcs sd l) (n + 1) := fun p hp => by
  have := hl p hp
  rw [addK_get h, hh, if_pos hp]
  simp only [Bool.false_eq_true, if_false]
  omega
theorem least_more {st : St} (h : GoodK st) (sd : Nat) (l : List UInt8) (ps : List Nat) (n : Nat) (hh : halved st = false) (hl : Least st ps n) : Least (addK sd st l) ps n := fun p hp => by
  have h1 := hl p hp
  have h2 := get_le h.le p
  rw [addK_get h, hh]
  simp only [Bool.false_eq_true, if_false]
  split <;> omega
theorem least_cnt {st : St} {ps : List Nat} {n : Nat} (h : Least st ps n) : min n 15 ≤ cnt st.1 ps := le_cnt _ _ _ (Nat.min_le_right _ _) h
theorem half_cnt {st : St} (h : GoodK st) (sd sd' : Nat) (l l' : List UInt8) (hh : halved st = true) : cnt (addK sd st l).1 (plcs sd' l') ≤ 7 := by
  have h1 := cnt_le_of (addK sd st l).1 (plcs sd' l') (plc sd' l' 0) (by simp [plcs])
  have h2 := get_le h.le (plc sd' l' 0)
  rw [addK_get h, hh] at h1
  simp only [if_true] at h1
  split at h1 <;> omega

/-- No counter is more than how many were added. -/
def Most (st : St) (n : Nat) : Prop := st.2 = n ∧ ∀ q, st.1.getD q 0 ≤ n
theorem most_fresh : Most fresh 0 := ⟨rfl, fun q => by rw [fresh_get]; exact Nat.le_refl _⟩
theorem most_step {st : St} (h : GoodK st) (sd : Nat) (l : List UInt8) (n : Nat) (hh : halved st = false) (hm : Most st n) : Most (addK sd st l) (n + 1) := by
  refine ⟨by rw [addK_age, hh, hm.1]; rfl, fun q => ?_⟩
  have := hm.2 q
  rw [addK_get h, hh]
  simp only [Bool.false_eq_true, if_false]
  split <;> omega
theorem most_cnt {st : St} {n : Nat} (h : Most st n) (sd : Nat) (l : List UInt8) : cnt st.1 (plcs sd l) ≤ n := Nat.le_trans (cnt_le_of _ _ (plc sd l 0) (by simp [plcs])) (h.2 _)

/-- One text, added again and again. -/
def Alone (st : St) (ps : List Nat) (i : Nat) : Prop := st.2 = (if i < 640 then i else 320 + (i - 640) % 320) ∧ ∀ p ∈ ps, st.1.getD p 0 = (if i < 640 then min i 15 else min (7 + (i - 640) % 320) 15)
theorem alone_fresh (ps : List Nat) : Alone fresh ps 0 := ⟨rfl, fun p _ => by rw [fresh_get]; rfl⟩
theorem alone_halved {st : St} {ps : List Nat} {i : Nat} (h : Alone st ps i) : halved st = decide (640 ≤ i + 1 ∧ (i + 1 - 640) % 320 = 0) := by
  unfold halved
  rw [h.1]
  apply decide_eq_decide.2
  split <;> omega
theorem alone_step {st : St} (hg : GoodK st) (sd : Nat) (l : List UInt8) (i : Nat) (h : Alone st (plcs sd l) i) : Alone (addK sd st l) (plcs sd l) (i + 1) ∧ (halved st = true → cnt (addK sd st l).1 (plcs sd l) = 7) := by
  have hh := alone_halved h
  cases e : halved st with
  | true =>
    rw [e] at hh
    have h1 := of_decide_eq_true hh.symm
    have each : ∀ p ∈ plcs sd l, (addK sd st l).1.getD p 0 = 7 := fun p hp => by
      rw [addK_get hg, e, if_pos hp, h.2 p hp]
      simp only [if_true]
      split <;> omega
    refine ⟨⟨?_, fun p hp => ?_⟩, fun _ => cnt_all _ _ _ 7 (by decide) each⟩
    · rw [addK_age, e]
      simp only [if_true]
      rw [if_neg (by omega), h1.2]
    · rw [each p hp, if_neg (by omega), h1.2]
      rfl
  | false =>
    rw [e] at hh
    have h1 := of_decide_eq_false hh.symm
    refine ⟨⟨?_, fun p hp => ?_⟩, fun h => by cases h⟩
    · rw [addK_age, e, h.1]
      simp only [Bool.false_eq_true, if_false]
      split <;> split <;> omega
    · rw [addK_get hg, e, if_pos hp, h.2 p hp]
      simp only [Bool.false_eq_true, if_false]
      split <;> split <;> omega
end Go.Proofs.YtkfeafmpaodagaaGreatDoor

namespace Go.Proofs.YtkfeafmpaodagaaGreatDoor

/-- A filter's places, a sketch's counters and age. -/
abbrev Js := List Nat × St
def sd1 (sd : Nat) : Nat := (sd + 1) % 18446744073709551616
def freshJ : Js := ([], fresh)
def hadJ (sd : Nat) (j : Js) (l : List UInt8) : Bool := hasS j.1 (pls sd l)
def touchJ (sd : Nat) (j : Js) (l : List UInt8) : Js :=
  if hadJ sd j l then (if halved j.2 then ([], addK (sd1 sd) j.2 l) else (addS j.1 (pls sd l), addK (sd1 sd) j.2 l)) else (addS j.1 (pls sd l), j.2)
def worthJ (sd : Nat) (j : Js) (l : List UInt8) : Nat := cnt j.2.1 (plcs (sd1 sd) l) + (if hadJ sd j l then 1 else 0)
structure GoodJ (j : Js) : Prop where
  set : Good j.1
  st : GoodK j.2
theorem good_freshJ : GoodJ freshJ := ⟨good_nil, good_fresh⟩
theorem good_touch {j : Js} (h : GoodJ j) (sd : Nat) (l : List UInt8) : GoodJ (touchJ sd j l) := by
  unfold touchJ
  split
  · split
    · exact ⟨good_nil, good_addK h.st _ l⟩
    · exact ⟨good_add h.set sd l, good_addK h.st _ l⟩
  · exact ⟨good_add h.set sd l, h.st⟩
theorem worth_le (sd : Nat) (j : Js) (l : List UInt8) : worthJ sd j l ≤ 16 := by
  unfold worthJ
  have := cnt_le j.2.1 (plcs (sd1 sd) l)
  split <;> omega
theorem worth_fresh (sd : Nat) (l : List UInt8) : worthJ sd freshJ l = 0 := by
  unfold worthJ freshJ
  rw [cnt_fresh]
  rfl
/-- A counter is not less behind an addition that halves nothing. -/
theorem cnt_more {st : St} (h : GoodK st) (sd sd' : Nat) (l l' : List UInt8) (hh : halved st = false) : cnt st.1 (plcs sd' l') ≤ cnt (addK sd st l).1 (plcs sd' l') :=
  le_cnt _ _ _ (cnt_le _ _) fun p hp => by
    have h1 := cnt_le_of st.1 (plcs sd' l') p hp
    have h2 := get_le h.le p
    rw [addK_get h, hh]
    simp only [Bool.false_eq_true, if_false]
    split <;> omega
/-- And not more behind one that halves all. -/
theorem cnt_less {st : St} (h : GoodK st) (sd sd' : Nat) (l l' : List UInt8) (hh : halved st = true) : cnt (addK sd st l).1 (plcs sd' l') ≤ cnt st.1 (plcs sd' l') :=
  le_cnt _ _ _ (cnt_le _ _) fun p hp => by
    have h1 := cnt_le_of (addK sd st l).1 (plcs sd' l') p hp
    rw [addK_get h, hh] at h1
    simp only [if_true] at h1
    split at h1 <;> omega
theorem used_more {j : Js} (h : GoodJ j) (sd : Nat) (l : List UInt8) (hh : (hadJ sd j l && halved j.2) = false) : worthJ sd j l ≤ worthJ sd (touchJ sd j l) l ∧ 1 ≤ worthJ sd (touchJ sd j l) l := by
  have hadd : hasS (addS j.1 (pls sd l)) (pls sd l) = true := has_add _ _
  cases e : hadJ sd j l with
  | true =>
    rw [e, Bool.true_and] at hh
    have hc := cnt_more h.st (sd1 sd) (sd1 sd) l l hh
    have ht : touchJ sd j l = (addS j.1 (pls sd l), addK (sd1 sd) j.2 l) := by
      unfold touchJ
      rw [if_pos e, hh]
      rfl
    unfold worthJ
    rw [ht, e]
    unfold hadJ
    rw [hadd]
    simp only [if_true]
    omega
  | false =>
    have ht : touchJ sd j l = (addS j.1 (pls sd l), j.2) := by
      unfold touchJ
      rw [e]
      rfl
    unfold worthJ
    rw [ht, e]
    unfold hadJ
    rw [hadd]
    simp only [if_true, Bool.false_eq_true, if_false]
    omega
theorem touch_half {j : Js} (sd : Nat) (l : List UInt8) (hh : (hadJ sd j l && halved j.2) = true) : touchJ sd j l = ([], addK (sd1 sd) j.2 l) ∧ halved j.2 = true := by
  rw [Bool.and_eq_true] at hh
  refine ⟨?_, hh.2⟩
  unfold touchJ
  rw [if_pos hh.1, if_pos hh.2]
theorem used_less {j : Js} (h : GoodJ j) (sd : Nat) (l m : List UInt8) (hh : (hadJ sd j l && halved j.2) = true) : worthJ sd (touchJ sd j l) l ≤ 8 ∧ worthJ sd (touchJ sd j l) m ≤ worthJ sd j m := by
  obtain ⟨ht, hv⟩ := touch_half sd l hh
  have h1 := half_cnt h.st (sd1 sd) (sd1 sd) l l hv
  have h2 := cnt_less h.st (sd1 sd) (sd1 sd) l m hv
  have e : ∀ k, hadJ sd ([], addK (sd1 sd) j.2 l) k = false := fun k => has_nil sd k
  unfold worthJ
  rw [ht, e, e]
  simp only [Bool.false_eq_true, if_false]
  omega
/-- One text, touched so often, and no other. -/
def AloneJ (sd : Nat) (j : Js) (l : List UInt8) (i : Nat) : Prop := (i = 0 ∧ j = freshJ) ∨ (1 ≤ i ∧ hadJ sd j l = true ∧ j.2.2 = i - 1 ∧ ∀ p ∈ plcs (sd1 sd) l, j.2.1.getD p 0 = min (i - 1) 15)
theorem aloneJ_worth {sd : Nat} {j : Js} {l : List UInt8} {i : Nat} (h : AloneJ sd j l i) : worthJ sd j l = min i 16 := by
  rcases h with ⟨rfl, rfl⟩ | ⟨h1, h2, _, h4⟩
  · rw [worth_fresh]
    rfl
  · unfold worthJ
    rw [h2, cnt_all _ _ _ (min (i - 1) 15) (Nat.min_le_right _ _) h4]
    simp only [if_true]
    omega
theorem aloneJ_step {sd : Nat} {j : Js} {l : List UInt8} {i : Nat} (hg : GoodJ j) (h : AloneJ sd j l i) (hi : i < 600) : AloneJ sd (touchJ sd j l) l (i + 1) := by
  rcases h with ⟨rfl, rfl⟩ | ⟨h1, h2, h3, h4⟩
  · have e : hadJ sd freshJ l = false := has_nil sd l
    have ht : touchJ sd freshJ l = (addS [] (pls sd l), fresh) := by
      unfold touchJ
      rw [e]
      rfl
    rw [ht]
    exact .inr ⟨Nat.le_refl _, has_add _ _, rfl, fun p _ => by rw [fresh_get]; rfl⟩
  · have hv : halved j.2 = false := by
      unfold halved
      exact decide_eq_false (by omega)
    have ht : touchJ sd j l = (addS j.1 (pls sd l), addK (sd1 sd) j.2 l) := by
      unfold touchJ
      rw [if_pos h2, hv]
      rfl
    rw [ht]
    refine .inr ⟨by omega, has_add _ _, ?_, fun p hp => ?_⟩
    · show (addK (sd1 sd) j.2 l).2 = _
      rw [addK_age, hv, h3]
      simp only [Bool.false_eq_true, if_false]
      omega
    · show (addK (sd1 sd) j.2 l).1.getD p 0 = _
      rw [addK_get hg.st, hv, if_pos hp, h4 p hp]
      simp only [Bool.false_eq_true, if_false]
      omega
/-- The chapter's example. -/
theorem worth_two (sd : Nat) (l : List UInt8) : worthJ sd (touchJ sd freshJ l) l = 1 ∧ worthJ sd (touchJ sd (touchJ sd freshJ l) l) l = 2 := by
  have a1 := aloneJ_step good_freshJ (.inl ⟨rfl, rfl⟩ : AloneJ sd freshJ l 0) (by decide)
  have a2 := aloneJ_step (good_touch good_freshJ sd l) a1 (by decide)
  exact ⟨aloneJ_worth a1, aloneJ_worth a2⟩
end Go.Proofs.YtkfeafmpaodagaaGreatDoor

namespace Go.Proofs.YtkfeafmpaodagaaGreatDoor

/-- A chunk: its class, its number. -/
abbrev Ck := Int × Int
def bytesC (k : Int) : Int := if k = 0 then 64 else if k = 1 then 128 else if k = 2 then 256 else if k = 3 then 512 else if k = 4 then 1024 else if k = 5 then 2048 else 0
def clsOf (size : Int) : Nat := if size ≤ 64 then 0 else if size ≤ 128 then 1 else if size ≤ 256 then 2 else if size ≤ 512 then 3 else if size ≤ 1024 then 4 else if size ≤ 2048 then 5 else 0
def clsErr (size : Int) : Int := if size ≤ 2048 then 0 else 4
/-- A budget, the chunks in use, those that were let go, how many were made of each class. -/
structure Sb where
  bud : Int
  inn : List Ck
  gone : List Ck
  made : List Nat
def freshS (bud : Int) : Sb := ⟨bud, [], [], [0, 0, 0, 0, 0, 0]⟩
def sumB (l : List Ck) : Int := (l.map fun c => bytesC c.1).sum
def usedS (st : Sb) : Int := sumB st.inn
def nextS (st : Sb) (k : Nat) : Ck := ((st.gone.filter fun c => decide (c.1 = (k : Int))).getLast?).getD ((k : Int), ((st.made.getD k 0 : Nat) : Int))
def takeErr (st : Sb) (size : Int) : Int := if size ≤ 2048 then (if usedS st + bytesC (clsOf size) ≤ st.bud then 0 else 5) else 4
def takeCk (st : Sb) (size : Int) : Ck := if takeErr st size = 0 then nextS st (clsOf size) else (0, 0)
def addC (st : Sb) (k : Nat) (c : Ck) : Sb := if c ∈ st.gone then ⟨st.bud, st.inn ++ [c], st.gone.erase c, st.made⟩ else ⟨st.bud, st.inn ++ [c], st.gone, st.made.set k (st.made.getD k 0 + 1)⟩
def takeS (st : Sb) (size : Int) : Sb := if takeErr st size = 0 then addC st (clsOf size) (nextS st (clsOf size)) else st
def freeErr (st : Sb) (c : Ck) : Int := if c ∈ st.inn then 0 else 1
def freeS (st : Sb) (c : Ck) : Sb := if c ∈ st.inn then ⟨st.bud, st.inn.erase c, st.gone ++ [c], st.made⟩ else st
def fitsS (st : Sb) (size less : Int) : Bool := decide (size ≤ 2048 ∧ 0 ≤ less ∧ less ≤ usedS st ∧ usedS st - less + bytesC (clsOf size) ≤ st.bud)
structure GoodS (st : Sb) : Prop where
  nodup : (st.inn ++ st.gone).Nodup
  len : st.made.length = 6
  cls : ∀ c ∈ st.inn ++ st.gone, 0 ≤ c.1 ∧ c.1 < 6 ∧ 0 ≤ c.2 ∧ c.2 < ((st.made.getD c.1.toNat 0 : Nat) : Int)
  bud : st.inn = [] ∨ usedS st ≤ st.bud
/-- No list of it is longer. -/
structure Small (st : Sb) (n : Nat) : Prop where
  inn : st.inn.length ≤ n
  gone : st.gone.length ≤ n
  made : ∀ m ∈ st.made, m ≤ n

theorem bytes_nonneg (k : Int) : 0 ≤ bytesC k := by
  unfold bytesC
  repeat' split
  all_goals omega
theorem bytes_le (k : Int) : bytesC k ≤ 2048 := by
  unfold bytesC
  repeat' split
  all_goals omega
theorem cls_lt (size : Int) : clsOf size < 6 := by
  unfold clsOf
  repeat' split
  all_goals omega
theorem sumB_app (l m : List Ck) : sumB (l ++ m) = sumB l + sumB m := by simp [sumB]
theorem sumB_cons (c : Ck) (l : List Ck) : sumB (c :: l) = bytesC c.1 + sumB l := by simp [sumB]
theorem sumB_one (c : Ck) : sumB [c] = bytesC c.1 := by simp [sumB]
theorem sumB_nonneg : ∀ l : List Ck, 0 ≤ sumB l
  | [] => by simp [sumB]
  | c :: l => by
    have h1 := sumB_nonneg l
    have h2 := bytes_nonneg c.1
    rw [sumB_cons]
    omega
theorem sumB_le : ∀ l : List Ck, sumB l ≤ 2048 * l.length
  | [] => by simp [sumB]
  | c :: l => by
    have h1 := sumB_le l
    have h2 := bytes_le c.1
    rw [sumB_cons, List.length_cons]
    omega
theorem sumB_erase : ∀ (l : List Ck) (c : Ck), c ∈ l → sumB (l.erase c) = sumB l - bytesC c.1
  | [], c, h => by cases h
  | d :: l, c, h => by
    by_cases e : d = c
    · subst e
      rw [List.erase_cons_head, sumB_cons]
      omega
    · rw [List.erase_cons_tail (by simpa using e), sumB_cons, sumB_cons, sumB_erase l c ((List.mem_cons.1 h).resolve_left fun h => e h.symm)]
      omega
theorem next_cases (st : Sb) (k : Nat) : (nextS st k ∈ st.gone ∧ (nextS st k).1 = (k : Int)) ∨ ((∀ c ∈ st.gone, c.1 ≠ (k : Int)) ∧ nextS st k = ((k : Int), ((st.made.getD k 0 : Nat) : Int))) := by
  unfold nextS
  cases h : (st.gone.filter fun c => decide (c.1 = (k : Int))).getLast? with
  | some c =>
    have := List.mem_of_getLast? h
    rw [List.mem_filter] at this
    exact .inl ⟨this.1, of_decide_eq_true this.2⟩
  | none =>
    rw [List.getLast?_eq_none_iff, List.filter_eq_nil_iff] at h
    exact .inr ⟨fun c hc e => h c hc (decide_eq_true e), rfl⟩
theorem next_cls (st : Sb) (k : Nat) : (nextS st k).1 = (k : Int) := by
  rcases next_cases st k with h | h
  · exact h.2
  · rw [h.2]
/-- A chunk that is taken was not in use. -/
theorem next_new {st : Sb} (h : GoodS st) (k : Nat) : ¬ nextS st k ∈ st.inn := by
  intro hm
  rcases next_cases st k with ⟨hg, _⟩ | ⟨_, e⟩
  · exact (List.nodup_append.1 h.nodup).2.2 _ hm _ hg rfl
  · have := (h.cls _ (List.mem_append_left _ hm)).2.2.2
    rw [e] at this
    simp at this
theorem getD_set_nat (l : List Nat) (i j x : Nat) (h : i < l.length) : (l.set i x).getD j 0 = if i = j then x else l.getD j 0 := by
  simp only [List.getD, List.getElem?_set]
  by_cases e : i = j
  · subst e
    simp [h]
  · simp [e]
theorem good_freshS (bud : Int) : GoodS (freshS bud) := ⟨List.nodup_nil, rfl, fun _ hc => (List.not_mem_nil hc).elim, .inl rfl⟩
theorem erase_perm {l : List Ck} {c : Ck} (h : c ∈ l) : ([c] ++ l.erase c).Perm l := (List.perm_cons_erase h).symm
theorem good_take {st : Sb} (h : GoodS st) (size : Int) : GoodS (takeS st size) := by
  unfold takeS
  by_cases he : takeErr st size = 0
  · rw [if_pos he]
    have hb : usedS st + bytesC (clsOf size) ≤ st.bud := by
      unfold takeErr at he
      split at he
      · split at he
        · assumption
        · omega
      · omega
    have hk := cls_lt size
    have hc1 := next_cls st (clsOf size)
    have hnew := next_new h (clsOf size)
    have hnc := next_cases st (clsOf size)
    generalize nextS st (clsOf size) = c at *
    generalize clsOf size = k at *
    have hused : sumB (st.inn ++ [c]) ≤ st.bud := by
      rw [sumB_app, sumB_one, hc1]
      exact hb
    unfold addC
    by_cases hg : c ∈ st.gone
    · rw [if_pos hg]
      have hp : (st.inn ++ [c] ++ st.gone.erase c).Perm (st.inn ++ st.gone) := by
        rw [List.append_assoc]
        exact List.Perm.append_left _ (erase_perm hg)
      exact ⟨hp.nodup_iff.2 h.nodup, h.len, fun d hd => h.cls d (hp.mem_iff.1 hd), .inr hused⟩
    · rw [if_neg hg]
      obtain ⟨hno, ec⟩ := hnc.resolve_left fun x => hg x.1
      have hfree : ¬ c ∈ st.inn ++ st.gone := fun hm => (List.mem_append.1 hm).elim hnew hg
      refine ⟨?_, by rw [List.length_set]; exact h.len, fun d hd => ?_, .inr hused⟩
      · have hp : (st.inn ++ [c] ++ st.gone).Perm (c :: (st.inn ++ st.gone)) := by
          rw [List.append_assoc]
          exact List.perm_middle
        rw [hp.nodup_iff]
        exact List.nodup_cons.2 ⟨hfree, h.nodup⟩
      · rw [getD_set_nat _ _ _ _ (by rw [h.len]; exact hk)]
        have hd2 : d = c ∨ d ∈ st.inn ++ st.gone := by
          simp only [List.mem_append, List.mem_singleton] at hd ⊢
          rcases hd with (hd | hd) | hd
          · exact .inr (.inl hd)
          · exact .inl hd
          · exact .inr (.inr hd)
        rcases hd2 with rfl | hd2
        · rw [hc1, ec]
          simp
          omega
        · obtain ⟨a1, a2, a3, a4⟩ := h.cls d hd2
          refine ⟨a1, a2, a3, ?_⟩
          by_cases e : k = d.1.toNat
          · rw [if_pos e, e]
            omega
          · rw [if_neg e]
            exact a4
  · rw [if_neg he]
    exact h
theorem good_free {st : Sb} (h : GoodS st) (c : Ck) : GoodS (freeS st c) := by
  unfold freeS
  by_cases hm : c ∈ st.inn
  · rw [if_pos hm]
    have hp : (st.inn.erase c ++ (st.gone ++ [c])).Perm (st.inn ++ st.gone) := by
      refine List.Perm.trans ?_ (List.Perm.append_right st.gone (erase_perm hm))
      rw [← List.append_assoc]
      exact (List.perm_append_comm).trans (by simp)
    refine ⟨hp.nodup_iff.2 h.nodup, h.len, fun d hd => h.cls d (hp.mem_iff.1 hd), ?_⟩
    rcases h.bud with e | e
    · rw [e] at hm
      cases hm
    · refine .inr ?_
      show sumB (st.inn.erase c) ≤ st.bud
      rw [sumB_erase _ _ hm]
      have := bytes_nonneg c.1
      have e2 : usedS st = sumB st.inn := rfl
      omega
  · rw [if_neg hm]
    exact h
theorem used_bound {st : Sb} {n : Nat} (h : Small st n) : 0 ≤ usedS st ∧ usedS st ≤ 2048 * n := by
  have h1 := sumB_nonneg st.inn
  have h2 := sumB_le st.inn
  have h3 := h.inn
  have e : usedS st = sumB st.inn := rfl
  omega
theorem small_fresh (bud : Int) : Small (freshS bud) 0 := ⟨Nat.le_refl _, Nat.le_refl _, fun m hm => by simp [freshS] at hm; omega⟩
theorem small_mono {st : Sb} {n m : Nat} (h : Small st n) (hm : n ≤ m) : Small st m := ⟨Nat.le_trans h.inn hm, Nat.le_trans h.gone hm, fun x hx => Nat.le_trans (h.made x hx) hm⟩
theorem small_take {st : Sb} {n : Nat} (h : Small st n) (size : Int) : Small (takeS st size) (n + 1) := by
  unfold takeS
  split
  · unfold addC
    split
    · refine ⟨by rw [List.length_append]; exact Nat.succ_le_succ h.inn, ?_, fun m hm => Nat.le_succ_of_le (h.made m hm)⟩
      exact Nat.le_succ_of_le (Nat.le_trans (List.length_erase_le) h.gone)
    · refine ⟨by rw [List.length_append]; exact Nat.succ_le_succ h.inn, Nat.le_succ_of_le h.gone, fun m hm => ?_⟩
      rcases List.mem_or_eq_of_mem_set hm with h1 | h1
      · exact Nat.le_succ_of_le (h.made m h1)
      · rw [h1]
        refine Nat.succ_le_succ ?_
        by_cases hk : clsOf size < st.made.length
        · simp only [List.getD, List.getElem?_eq_getElem hk, Option.getD_some]
          exact h.made _ (List.getElem_mem hk)
        · simp [List.getD, List.getElem?_eq_none (Nat.le_of_not_lt hk)]
  · exact small_mono h (Nat.le_succ n)
theorem small_free {st : Sb} {n : Nat} (h : Small st n) (c : Ck) : Small (freeS st c) (n + 1) := by
  unfold freeS
  split
  · exact ⟨Nat.le_succ_of_le (Nat.le_trans (List.length_erase_le) h.inn), by rw [List.length_append]; exact Nat.succ_le_succ h.gone, fun m hm => Nat.le_succ_of_le (h.made m hm)⟩
  · exact small_mono h (Nat.le_succ n)
end Go.Proofs.YtkfeafmpaodagaaGreatDoor

namespace Go.Proofs.YtkfeafmpaodagaaGreatDoor

/-- How many may be protected; the keys on trial, the keys protected. -/
structure Sr where
  most : Int
  trial : List ByteArray
  safe : List ByteArray
def freshR (most : Int) : Sr := ⟨most, [], []⟩
def allR (st : Sr) : List ByteArray := st.trial ++ st.safe
def hasK (l : List ByteArray) (k : ByteArray) : Bool := l.any fun x => decide (x = k)
def without (l : List ByteArray) (k : ByteArray) : List ByteArray := l.filter fun x => decide (x ≠ k)
def addErr (st : Sr) (k : ByteArray) : Int := if hasK (allR st) k then 7 else 0
def addR (st : Sr) (k : ByteArray) : Sr := if hasK (allR st) k then st else ⟨st.most, st.trial ++ [k], st.safe⟩
def remErr (st : Sr) (k : ByteArray) : Int := if hasK (allR st) k then 0 else 6
def remR (st : Sr) (k : ByteArray) : Sr := ⟨st.most, without st.trial k, without st.safe k⟩
/-- If those protected are too many, the first of them goes back on trial. -/
def spill (st : Sr) : Sr := if st.most < st.safe.length then (match st.safe with | [] => st | x :: l => ⟨st.most, st.trial ++ [x], l⟩) else st
def hitR (st : Sr) (k : ByteArray) : Sr := if hasK (allR st) k then spill ⟨st.most, without st.trial k, without st.safe k ++ [k]⟩ else st
/-- The first one that is not this one. -/
def vicR (st : Sr) (k : ByteArray) : Option ByteArray := (allR st).find? fun x => decide (x ≠ k)
structure GoodR (st : Sr) : Prop where
  nodup : (allR st).Nodup
  most : (st.safe.length : Int) ≤ max st.most 0

theorem hasK_iff {l : List ByteArray} {k : ByteArray} : hasK l k = true ↔ k ∈ l := by simp [hasK]
theorem hasK_not {l : List ByteArray} {k : ByteArray} : hasK l k = false ↔ ¬ k ∈ l := by rw [← hasK_iff]; simp
theorem mem_without {l : List ByteArray} {k x : ByteArray} : x ∈ without l k ↔ x ∈ l ∧ x ≠ k := by simp [without]
theorem without_app (l m : List ByteArray) (k : ByteArray) : without (l ++ m) k = without l k ++ without m k := by simp [without]
theorem without_not {l : List ByteArray} {k : ByteArray} (h : ¬ k ∈ l) : without l k = l := by
  unfold without
  rw [List.filter_eq_self]
  intro x hx
  exact decide_eq_true fun e => h (e ▸ hx)
theorem without_sub (l : List ByteArray) (k : ByteArray) : (without l k).Sublist l := List.filter_sublist
theorem without_le (l : List ByteArray) (k : ByteArray) : (without l k).length ≤ l.length := (without_sub l k).length_le
theorem without_lt {l : List ByteArray} {k : ByteArray} (h : k ∈ l) : (without l k).length < l.length := by
  unfold without
  exact List.length_filter_lt_length_iff_exists.2 ⟨k, h, by simp⟩
theorem without_len {l : List ByteArray} {k : ByteArray} (hn : l.Nodup) (h : k ∈ l) : (without l k).length + 1 = l.length := by
  induction l with
  | nil => cases h
  | cons x l ih =>
    rw [List.nodup_cons] at hn
    by_cases e : x = k
    · subst e
      have : without (x :: l) x = without l x := by simp [without]
      rw [this, without_not hn.1, List.length_cons]
    · have : without (x :: l) k = x :: without l k := by simp [without, e]
      have hk : k ∈ l := (List.mem_cons.1 h).resolve_left fun h => e h.symm
      have := ih hn.2 hk
      simp_all
theorem all_rem (st : Sr) (k : ByteArray) : allR (remR st k) = without (allR st) k := (without_app _ _ _).symm
theorem rem_not {st : Sr} {k : ByteArray} (h : ¬ k ∈ allR st) : remR st k = st := by
  unfold remR
  rw [without_not fun h' => h (List.mem_append_left _ h'), without_not fun h' => h (List.mem_append_right _ h')]
theorem goodR_fresh (most : Int) : GoodR (freshR most) := ⟨List.nodup_nil, by simp [freshR]; omega⟩
theorem goodR_add {st : Sr} (h : GoodR st) (k : ByteArray) : GoodR (addR st k) := by
  unfold addR
  split
  · exact h
  · rename_i hk
    rw [hasK_iff] at hk
    refine ⟨?_, h.most⟩
    show (st.trial ++ [k] ++ st.safe).Nodup
    have hp : (st.trial ++ [k] ++ st.safe).Perm (k :: allR st) := by
      rw [List.append_assoc]
      exact List.perm_middle
    exact hp.nodup_iff.2 (List.nodup_cons.2 ⟨hk, h.nodup⟩)
theorem good_rem {st : Sr} (h : GoodR st) (k : ByteArray) : GoodR (remR st k) := by
  refine ⟨?_, ?_⟩
  · rw [all_rem]
    exact (without_sub _ k).nodup h.nodup
  · have := without_le st.safe k
    have h2 := h.most
    show ((without st.safe k).length : Int) ≤ _
    show _ ≤ max st.most 0
    omega
theorem all_spill (st : Sr) : allR (spill st) = allR st := by
  unfold spill
  split
  · split
    · rfl
    · rename_i x l e
      unfold allR
      rw [e]
      simp
  · rfl
theorem all_hit {st : Sr} {k : ByteArray} (h : k ∈ allR st) : allR (hitR st k) = without (allR st) k ++ [k] := by
  unfold hitR
  rw [if_pos (hasK_iff.2 h), all_spill]
  show without st.trial k ++ (without st.safe k ++ [k]) = _
  rw [← List.append_assoc, ← without_app]
  rfl
theorem good_hit {st : Sr} (h : GoodR st) (k : ByteArray) : GoodR (hitR st k) := by
  by_cases hk : k ∈ allR st
  · refine ⟨?_, ?_⟩
    · rw [all_hit hk, List.nodup_append]
      refine ⟨(without_sub _ k).nodup h.nodup, by simp, ?_⟩
      intro a ha b hb e
      rw [List.mem_singleton] at hb
      exact (mem_without.1 ha).2 (e.trans hb)
    · have := without_le st.safe k
      have h2 := h.most
      unfold hitR
      rw [if_pos (hasK_iff.2 hk)]
      unfold spill
      split
      · rename_i hlt
        split
        · rename_i e
          simp at e
        · rename_i x l e
          have hl := congrArg List.length e
          simp at hl hlt ⊢
          omega
      · rename_i hlt
        simp at hlt ⊢
        omega
  · unfold hitR
    rw [if_neg (fun h => hk (hasK_iff.1 h))]
    exact h
theorem lenR_add (st : Sr) (k : ByteArray) : (allR (addR st k)).length ≤ (allR st).length + 1 := by
  unfold addR
  split
  · omega
  · simp [allR]
    omega
theorem len_rem (st : Sr) (k : ByteArray) : (allR (remR st k)).length ≤ (allR st).length := by
  rw [all_rem]
  exact without_le _ _
theorem len_hit {st : Sr} (h : GoodR st) (k : ByteArray) : (allR (hitR st k)).length = (allR st).length := by
  by_cases hk : k ∈ allR st
  · rw [all_hit hk, List.length_append]
    exact without_len h.nodup hk
  · unfold hitR
    rw [if_neg (fun h => hk (hasK_iff.1 h))]
theorem most_add (st : Sr) (k : ByteArray) : (addR st k).most = st.most := by unfold addR; split <;> rfl
theorem most_rem (st : Sr) (k : ByteArray) : (remR st k).most = st.most := rfl
theorem most_spill (st : Sr) : (spill st).most = st.most := by
  unfold spill
  split
  · split <;> rfl
  · rfl
theorem most_hit (st : Sr) (k : ByteArray) : (hitR st k).most = st.most := by
  unfold hitR
  split
  · rw [most_spill]
  · rfl
theorem add_in {st : Sr} {k : ByteArray} (h : k ∈ allR st) : addErr st k = 7 ∧ addR st k = st := by
  unfold addErr addR
  rw [if_pos (hasK_iff.2 h), if_pos (hasK_iff.2 h)]
  exact ⟨rfl, rfl⟩
theorem add_out {st : Sr} {k : ByteArray} (h : ¬ k ∈ allR st) : addErr st k = 0 ∧ addR st k = ⟨st.most, st.trial ++ [k], st.safe⟩ := by
  unfold addErr addR
  rw [if_neg (fun h' => h (hasK_iff.1 h')), if_neg (fun h' => h (hasK_iff.1 h'))]
  exact ⟨rfl, rfl⟩
theorem rem_in {st : Sr} {k : ByteArray} (h : k ∈ allR st) : remErr st k = 0 := by
  unfold remErr
  rw [if_pos (hasK_iff.2 h)]
theorem rem_out {st : Sr} {k : ByteArray} (h : ¬ k ∈ allR st) : remErr st k = 6 ∧ remR st k = st := by
  unfold remErr
  rw [if_neg (fun h' => h (hasK_iff.1 h'))]
  exact ⟨rfl, rem_not h⟩
theorem hit_out {st : Sr} {k : ByteArray} (h : ¬ k ∈ allR st) : hitR st k = st := by
  unfold hitR
  rw [if_neg (fun h' => h (hasK_iff.1 h'))]
end Go.Proofs.YtkfeafmpaodagaaGreatDoor

namespace Go.Proofs.YtkfeafmpaodagaaGreatDoor

/-- Does a text stand ahead of another, byte by byte? -/
def ltB : List UInt8 → List UInt8 → Bool
  | _, [] => false
  | [], _ :: _ => true
  | a :: l, b :: m => if a < b then true else if b < a then false else ltB l m
abbrev Kv := ByteArray × Int
def ltK (a b : ByteArray) : Bool := ltB a.data.toList b.data.toList
theorem ltB_irrefl : ∀ l, ltB l l = false
  | [] => rfl
  | a :: l => by simp [ltB, UInt8.lt_irrefl, ltB_irrefl l]
theorem ltB_trans : ∀ {l m n}, ltB l m = true → ltB m n = true → ltB l n = true
  | _, [], _, h, _ => by cases ‹List UInt8› <;> simp [ltB] at h
  | _, b :: m, [], _, h => by simp [ltB] at h
  | [], b :: m, c :: n, _, _ => by simp [ltB]
  | a :: l, b :: m, c :: n, h1, h2 => by
    unfold ltB at h1 h2 ⊢
    by_cases hab : a < b
    · by_cases hbc : b < c
      · simp [UInt8.lt_trans hab hbc]
      · by_cases hcb : c < b
        · simp [hbc, hcb] at h2
        · have : b = c := UInt8.le_antisymm (UInt8.not_lt.1 hcb) (UInt8.not_lt.1 hbc)
          subst this
          simp [hab]
    · by_cases hba : b < a
      · simp [hab, hba] at h1
      · have : a = b := UInt8.le_antisymm (UInt8.not_lt.1 hba) (UInt8.not_lt.1 hab)
        subst this
        simp [hab] at h1
        by_cases hac : a < c
        · simp [hac]
        · by_cases hca : c < a
          · simp [hac, hca] at h2
          · simp [hac, hca] at h2 ⊢
            exact ltB_trans h1 h2
theorem ltB_total : ∀ {l m}, ltB l m = false → ltB m l = false → l = m
  | [], [], _, _ => rfl
  | [], b :: m, h, _ => by simp [ltB] at h
  | a :: l, [], _, h => by simp [ltB] at h
  | a :: l, b :: m, h1, h2 => by
    unfold ltB at h1 h2
    by_cases hab : a < b
    · simp [hab] at h1
    · by_cases hba : b < a
      · simp [hba] at h2
      · have : a = b := UInt8.le_antisymm (UInt8.not_lt.1 hba) (UInt8.not_lt.1 hab)
        subst this
        simp [hab] at h1 h2
        rw [ltB_total h1 h2]
theorem ltK_irrefl (a : ByteArray) : ltK a a = false := ltB_irrefl _
theorem ltK_trans {a b c : ByteArray} (h1 : ltK a b = true) (h2 : ltK b c = true) : ltK a c = true := ltB_trans h1 h2
theorem ltK_total {a b : ByteArray} (h1 : ltK a b = false) (h2 : ltK b a = false) : a = b := ByteArray.ext (Array.toList_inj.1 (ltB_total h1 h2))
theorem ltK_ne {a b : ByteArray} (h : ltK a b = true) : a ≠ b := fun e => by rw [e, ltK_irrefl] at h; cases h
theorem ltK_asymm {a b : ByteArray} (h : ltK a b = true) : ltK b a = false := by
  cases h2 : ltK b a with
  | false => rfl
  | true => exact absurd (ltK_trans h h2) (by rw [ltK_irrefl]; simp)
/-- Pairs by rising texts. -/
def Rising (l : List Kv) : Prop := l.Pairwise fun a b => ltK a.1 b.1 = true
def putL (k : ByteArray) (v : Int) : List Kv → List Kv
  | [] => [(k, v)]
  | (a, x) :: l => if a = k then (k, v) :: l else if ltK k a then (k, v) :: (a, x) :: l else (a, x) :: putL k v l
def delL (k : ByteArray) (l : List Kv) : List Kv := l.filter fun p => decide (p.1 ≠ k)
def getL (k : ByteArray) (l : List Kv) : Option Int := (l.find? fun p => decide (p.1 = k)).map (·.2)
theorem mem_putL {k : ByteArray} {v : Int} {p : Kv} : ∀ {l : List Kv}, Rising l → (p ∈ putL k v l ↔ p = (k, v) ∨ (p ∈ l ∧ p.1 ≠ k))
  | [], _ => by simp [putL]
  | (a, x) :: l, h => by
    unfold Rising at h
    rw [List.pairwise_cons] at h
    obtain ⟨h1, h2⟩ := h
    unfold putL
    by_cases e : a = k
    · rw [if_pos e]
      subst e
      simp only [List.mem_cons]
      constructor
      · rintro (rfl | hp)
        · exact .inl rfl
        · exact .inr ⟨.inr hp, (ltK_ne (h1 p hp)).symm⟩
      · rintro (rfl | ⟨rfl | hp, hne⟩)
        · exact .inl rfl
        · exact absurd rfl hne
        · exact .inr hp
    · rw [if_neg e]
      by_cases hk : ltK k a = true
      · rw [if_pos hk]
        simp only [List.mem_cons]
        constructor
        · rintro (rfl | rfl | hp)
          · exact .inl rfl
          · exact .inr ⟨.inl rfl, e⟩
          · exact .inr ⟨.inr hp, (ltK_ne (ltK_trans hk (h1 p hp))).symm⟩
        · rintro (rfl | ⟨rfl | hp, _⟩)
          · exact .inl rfl
          · exact .inr (.inl rfl)
          · exact .inr (.inr hp)
      · rw [if_neg hk]
        simp only [List.mem_cons]
        rw [mem_putL h2]
        constructor
        · rintro (rfl | rfl | ⟨hp, hne⟩)
          · exact .inr ⟨.inl rfl, e⟩
          · exact .inl rfl
          · exact .inr ⟨.inr hp, hne⟩
        · rintro (rfl | ⟨rfl | hp, hne⟩)
          · exact .inr (.inl rfl)
          · exact .inl rfl
          · exact .inr (.inr ⟨hp, hne⟩)
theorem rising_put {k : ByteArray} {v : Int} : ∀ {l : List Kv}, Rising l → Rising (putL k v l)
  | [], _ => by simp [putL, Rising]
  | (a, x) :: l, h => by
    have h0 := h
    unfold Rising at h
    rw [List.pairwise_cons] at h
    obtain ⟨h1, h2⟩ := h
    unfold putL
    by_cases e : a = k
    · rw [if_pos e]
      subst e
      exact List.pairwise_cons.2 ⟨h1, h2⟩
    · rw [if_neg e]
      by_cases hk : ltK k a = true
      · rw [if_pos hk]
        refine List.pairwise_cons.2 ⟨fun p hp => ?_, h0⟩
        rcases List.mem_cons.1 hp with rfl | hp
        · exact hk
        · exact ltK_trans hk (h1 p hp)
      · rw [if_neg hk]
        have hka : ltK a k = true := by
          cases h3 : ltK a k with
          | true => rfl
          | false => exact absurd (ltK_total h3 (by simpa using hk)) e
        refine List.pairwise_cons.2 ⟨fun p hp => ?_, rising_put h2⟩
        rcases (mem_putL h2).1 hp with rfl | ⟨hp, _⟩
        · exact hka
        · exact h1 p hp
theorem rising_del {k : ByteArray} {l : List Kv} (h : Rising l) : Rising (delL k l) := h.sublist List.filter_sublist
theorem mem_delL {k : ByteArray} {p : Kv} {l : List Kv} : p ∈ delL k l ↔ p ∈ l ∧ p.1 ≠ k := by simp [delL]
theorem rising_one {l : List Kv} (h : Rising l) {k : ByteArray} {v x : Int} (h1 : (k, v) ∈ l) (h2 : (k, x) ∈ l) : v = x := by
  induction l with
  | nil => cases h1
  | cons p l ih =>
    unfold Rising at h
    rw [List.pairwise_cons] at h
    rcases List.mem_cons.1 h1 with e1 | g1
    · rcases List.mem_cons.1 h2 with e2 | g2
      · rw [← e1] at e2
        cases e2
        rfl
      · have := h.1 _ g2
        rw [← e1, ltK_irrefl] at this
        cases this
    · rcases List.mem_cons.1 h2 with e2 | g2
      · have := h.1 _ g1
        rw [← e2, ltK_irrefl] at this
        cases this
      · exact ih h.2 g1 g2
theorem getL_some {l : List Kv} (h : Rising l) {k : ByteArray} {v : Int} : getL k l = some v ↔ (k, v) ∈ l := by
  unfold getL
  constructor
  · intro e
    cases hf : l.find? fun p => decide (p.1 = k) with
    | none => rw [hf] at e; cases e
    | some p =>
      rw [hf] at e
      have hm := List.mem_of_find?_eq_some hf
      have hp := List.find?_some hf
      simp at hp e
      obtain ⟨a, x⟩ := p
      simp at hp e
      subst hp e
      exact hm
  · intro hm
    cases hf : l.find? fun p => decide (p.1 = k) with
    | none =>
      rw [List.find?_eq_none] at hf
      exact absurd (hf _ hm) (by simp)
    | some p =>
      have hm2 := List.mem_of_find?_eq_some hf
      have hp := List.find?_some hf
      simp at hp
      obtain ⟨a, x⟩ := p
      simp at hp
      subst hp
      simp [rising_one h hm2 hm]
/-- Two such lists that have the same pairs are the same. -/
theorem rising_ext : ∀ {l m : List Kv}, Rising l → Rising m → (∀ p, p ∈ l ↔ p ∈ m) → l = m
  | [], [], _, _, _ => rfl
  | [], q :: m, _, _, h => absurd ((h q).2 List.mem_cons_self) (by simp)
  | p :: l, [], _, _, h => absurd ((h p).1 List.mem_cons_self) (by simp)
  | p :: l, q :: m, hl, hm, h => by
    unfold Rising at hl hm
    rw [List.pairwise_cons] at hl hm
    have e : p = q := by
      rcases List.mem_cons.1 ((h p).1 List.mem_cons_self) with e | h1
      · exact e
      · rcases List.mem_cons.1 ((h q).2 List.mem_cons_self) with e | h2
        · exact e.symm
        · have := ltK_asymm (hm.1 p h1)
          rw [hl.1 q h2] at this
          cases this
    subst e
    rw [rising_ext hl.2 hm.2 fun r => ?_]
    constructor
    · intro hr
      rcases List.mem_cons.1 ((h r).1 (List.mem_cons_of_mem _ hr)) with e | h3
      · subst e; have := hl.1 r hr; rw [ltK_irrefl] at this; cases this
      · exact h3
    · intro hr
      rcases List.mem_cons.1 ((h r).2 (List.mem_cons_of_mem _ hr)) with e | h3
      · subst e; have := hm.1 r hr; rw [ltK_irrefl] at this; cases this
      · exact h3
end Go.Proofs.YtkfeafmpaodagaaGreatDoor
