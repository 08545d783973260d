/- Hashes of texts under a seed, over numbers and lists alone: nothing of the program is run here. Conditions: where numbers are spoken of, they are below 2 to the 64th. Filters over lists of places alone: nothing of the program is run here. Conditions: none. Sketches over lists of counters alone: nothing of the program is run here. Conditions: none. Judges over lists of places and counters alone: nothing of the program is run here. Conditions: none. -/
import Derived.Laws.Bits64
import Derived.KernelRfl
namespace Go.Proofs.YthfkcbnabnmnjabGreatDoor

/-- Exclusive or with itself, shifted to the right by s places. -/
def xsh (s n : Nat) : Nat := n ^^^ n / 2 ^ s
/-- Times c, going round. -/
def mul (c n : Nat) : Nat := n * c % 18446744073709551616
def mixN (n : Nat) : Nat := xsh 31 (mul 10723151780598845931 (xsh 27 (mul 13787848793156543929 (xsh 30 n))))
def stepN (h : Nat) (c : UInt8) : Nat := mul 1099511628211 (h ^^^ c.toNat)
def runN (h : Nat) (l : List UInt8) : Nat := l.foldl stepN h
def ofN (seed : Nat) (l : List UInt8) : Nat := mixN (runN (mixN seed) l)

theorem xor_lt {a b : Nat} (ha : a < 18446744073709551616) (hb : b < 18446744073709551616) : a ^^^ b < 18446744073709551616 := by
  have h : a ^^^ b < 2 ^ 64 := Nat.xor_lt_two_pow (by omega) (by omega)
  omega
theorem xsh_lt (s : Nat) {n : Nat} (h : n < 18446744073709551616) : xsh s n < 18446744073709551616 :=
  xor_lt h (Nat.lt_of_le_of_lt (Nat.div_le_self _ _) h)
theorem mul_lt (c n : Nat) : mul c n < 18446744073709551616 := Nat.mod_lt _ (by decide)
theorem mix_lt (n : Nat) : mixN n < 18446744073709551616 := xsh_lt _ (mul_lt _ _)
theorem step_lt (h : Nat) (c : UInt8) : stepN h c < 18446744073709551616 := mul_lt _ _

theorem xor_div (a b s : Nat) : (a ^^^ b) / 2 ^ s = a / 2 ^ s ^^^ b / 2 ^ s := by
  rw [← Nat.shiftRight_eq_div_pow, ← Nat.shiftRight_eq_div_pow, ← Nat.shiftRight_eq_div_pow, Nat.shiftRight_xor_distrib]
theorem xor_eq_zero {a b : Nat} (h : a ^^^ b = 0) : a = b := by
  have h2 : a ^^^ b ^^^ b = b := by rw [h, Nat.zero_xor]
  rw [Nat.xor_assoc, Nat.xor_self, Nat.xor_zero] at h2
  exact h2
theorem xsh_inj (s : Nat) (hs : 1 ≤ s) {a b : Nat} (h : xsh s a = xsh s b) : a = b := by
  apply xor_eq_zero
  have h1 : a ^^^ b = (a ^^^ b) / 2 ^ s := by
    unfold xsh at h
    rw [xor_div]
    have h2 : (a ^^^ a / 2 ^ s) ^^^ (b ^^^ b / 2 ^ s) = 0 := by rw [h, Nat.xor_self]
    apply xor_eq_zero
    rw [← h2]
    generalize a / 2 ^ s = x
    generalize b / 2 ^ s = y
    rw [Nat.xor_assoc, Nat.xor_assoc]
    congr 1
    rw [← Nat.xor_assoc, ← Nat.xor_assoc, Nat.xor_comm b x]
  have h3 : (a ^^^ b) / 2 ^ s ≤ (a ^^^ b) / 2 := Nat.div_le_div_left (by
    have := Nat.pow_le_pow_right (show 0 < 2 by decide) hs
    omega) (by decide)
  omega
theorem mul_inv (c i : Nat) (hi : c * i % 18446744073709551616 = 1) {n : Nat} (h : n < 18446744073709551616) : mul i (mul c n) = n := by
  unfold mul
  rw [Nat.mod_mul_mod, Nat.mul_assoc, ← Nat.mul_mod_mod, hi, Nat.mul_one]
  exact Nat.mod_eq_of_lt h
theorem mul_inj (c i : Nat) (hi : c * i % 18446744073709551616 = 1) {a b : Nat} (ha : a < 18446744073709551616) (hb : b < 18446744073709551616) (h : mul c a = mul c b) : a = b := by
  rw [← mul_inv c i hi ha, ← mul_inv c i hi hb, h]

/-- Two numbers have one Mix just if they are the same. -/
theorem mix_inj {a b : Nat} (ha : a < 18446744073709551616) (hb : b < 18446744073709551616) (h : mixN a = mixN b) : a = b := by
  unfold mixN at h
  have h1 := xsh_inj 31 (by decide) h
  have h2 := mul_inj 10723151780598845931 3573116690164977347 (by decide) (xsh_lt _ (mul_lt _ _)) (xsh_lt _ (mul_lt _ _)) h1
  have h3 := xsh_inj 27 (by decide) h2
  have h4 := mul_inj 13787848793156543929 10871156337175269513 (by decide) (xsh_lt _ ha) (xsh_lt _ hb) h3
  exact xsh_inj 30 (by decide) h4
theorem byte_lt (c : UInt8) : c.toNat < 18446744073709551616 := Nat.lt_of_lt_of_le c.toNat_lt (by decide)
theorem step_inj {a b : Nat} (c : UInt8) (ha : a < 18446744073709551616) (hb : b < 18446744073709551616) (h : stepN a c = stepN b c) : a = b := by
  have h1 := mul_inj 1099511628211 14886173955864302971 (by decide) (xor_lt ha (byte_lt c)) (xor_lt hb (byte_lt c)) h
  have h2 := congrArg (· ^^^ c.toNat) h1
  simp only [Nat.xor_assoc, Nat.xor_self, Nat.xor_zero] at h2
  exact h2
theorem step_byte {a : Nat} (c d : UInt8) (ha : a < 18446744073709551616) (h : stepN a c = stepN a d) : c = d := by
  have h1 := mul_inj 1099511628211 14886173955864302971 (by decide) (xor_lt ha (byte_lt c)) (xor_lt ha (byte_lt d)) h
  have h2 := congrArg (a ^^^ ·) h1
  simp only [← Nat.xor_assoc, Nat.xor_self, Nat.zero_xor] at h2
  exact UInt8.toNat_inj.1 h2
theorem run_lt : ∀ (l : List UInt8) {h : Nat}, h < 18446744073709551616 → runN h l < 18446744073709551616
  | [], _, hh => hh
  | c :: l, h, _ => run_lt l (step_lt h c)
theorem run_inj : ∀ (l : List UInt8) {a b : Nat}, a < 18446744073709551616 → b < 18446744073709551616 → runN a l = runN b l → a = b
  | [], _, _, _, _, h => h
  | c :: l, a, b, ha, hb, h => step_inj c ha hb (run_inj l (step_lt a c) (step_lt b c) h)
theorem run_app (h : Nat) (k l : List UInt8) : runN h (k ++ l) = runN (runN h k) l := by unfold runN; rw [List.foldl_append]
theorem run_set : ∀ (l : List UInt8) (k : Nat) (hk : k < l.length) (c : UInt8) {h : Nat}, h < 18446744073709551616 → l[k] ≠ c → runN h l ≠ runN h (l.set k c)
  | x :: l, 0, _, c, h, hh, hne => fun e => hne (step_byte x c hh (run_inj l (step_lt h x) (step_lt h c) e))
  | x :: l, k + 1, hk, c, h, hh, hne => run_set l k (by simpa using hk) c (step_lt h x) (by simpa using hne)

theorem of_lt (seed : Nat) (l : List UInt8) : ofN seed l < 18446744073709551616 := mix_lt _
/-- Of two texts that are the same but for one byte the hashes under one seed are two. -/
theorem of_set (seed : Nat) (l : List UInt8) (k : Nat) (hk : k < l.length) (c : UInt8) (hne : l[k] ≠ c) : ofN seed l ≠ ofN seed (l.set k c) := fun e =>
  run_set l k hk c (mix_lt seed) hne (mix_inj (run_lt _ (mix_lt _)) (run_lt _ (mix_lt _)) e)
/-- Under two seeds that are not the same any text has two hashes. -/
theorem of_seeds (a b : Nat) (ha : a < 18446744073709551616) (hb : b < 18446744073709551616) (l : List UInt8) (hne : a ≠ b) : ofN a l ≠ ofN b l := fun e =>
  hne (mix_inj ha hb (run_inj l (mix_lt _) (mix_lt _) (mix_inj (run_lt _ (mix_lt _)) (run_lt _ (mix_lt _)) e)))
theorem mix_0 : mixN 0 = 0 := by decide +kernel
theorem mix_1 : mixN 1 = 6238072747940578789 := by decide +kernel
theorem of_0 : ofN 0 [] = 0 := by decide +kernel

/-- The walk's own words: exclusive or with a shift, a product that goes round. -/
theorem walk_xsh (s S n : Nat) (hS : S = 2 ^ s) (h : n < 18446744073709551616) : bits .xor .u64 (n : Int) ((n : Int) / (S : Int)) = ((xsh s n : Nat) : Int) := by
  rw [xorShift_u64 n S h, hS]
  rfl
theorem walk_mul (c n : Nat) : IntKind.u64.wrap ((n : Int) * (c : Int)) = ((mul c n : Nat) : Int) := by
  rw [IntKind.wrap_u64]
  obtain ⟨m, hm⟩ : ∃ m, m = n * c := ⟨_, rfl⟩
  have h1 : (n : Int) * (c : Int) = (m : Int) := by rw [hm, Int.natCast_mul]
  unfold mul
  rw [h1, ← hm]
  omega
theorem walk_xor (h c : Nat) (hh : h < 18446744073709551616) (hc : c < 18446744073709551616) : bits .xor .u64 (h : Int) (c : Int) = ((h ^^^ c : Nat) : Int) := bits_xor_u64_nat h c hh hc
end Go.Proofs.YthfkcbnabnmnjabGreatDoor

namespace Go.Proofs.YthfkcbnabnmnjabGreatDoor

/-- The place of a text's k-th hash. -/
def placeN (seed : Nat) (l : List UInt8) (k : Nat) : Nat := ofN ((seed + k) % 18446744073709551616) l % 512
/-- A text's three places. -/
def pls (seed : Nat) (l : List UInt8) : List Nat := [placeN seed l 0, placeN seed l 1, placeN seed l 2]
/-- Are all these set? -/
def hasS (S ps : List Nat) : Bool := ps.all fun p => decide (p ∈ S)
def insS (S : List Nat) (p : Nat) : List Nat := if p ∈ S then S else S ++ [p]
/-- All these are set. -/
def addS (S ps : List Nat) : List Nat := ps.foldl insS S
/-- Places of a filter: no two the same, each below 512. -/
def Good (S : List Nat) : Prop := S.Nodup ∧ ∀ p ∈ S, p < 512

theorem place_lt (seed : Nat) (l : List UInt8) (k : Nat) : placeN seed l k < 512 := Nat.mod_lt _ (by decide)
theorem pls_lt (seed : Nat) (l : List UInt8) : ∀ p ∈ pls seed l, p < 512 := by
  intro p hp
  unfold pls at hp
  simp only [List.mem_cons, List.not_mem_nil, or_false] at hp
  rcases hp with rfl | rfl | rfl <;> exact place_lt _ _ _
theorem pls_len (seed : Nat) (l : List UInt8) : (pls seed l).length = 3 := rfl
theorem hasS_iff (S ps : List Nat) : hasS S ps = true ↔ ∀ p ∈ ps, p ∈ S := by
  unfold hasS
  simp [List.all_eq_true]
theorem mem_ins (S : List Nat) (p q : Nat) : q ∈ insS S p ↔ q ∈ S ∨ q = p := by
  unfold insS
  split
  · rename_i h
    constructor
    · exact .inl
    · rintro (h1 | rfl)
      · exact h1
      · exact h
  · simp
theorem mem_add : ∀ (ps S : List Nat) (q : Nat), q ∈ addS S ps ↔ q ∈ S ∨ q ∈ ps
  | [], S, q => by simp [addS]
  | p :: ps, S, q => by
    show q ∈ addS (insS S p) ps ↔ _
    rw [mem_add ps, mem_ins]
    simp [or_assoc]
theorem nodup_ins {S : List Nat} (h : S.Nodup) (p : Nat) : (insS S p).Nodup := by
  unfold insS
  split
  · exact h
  · rename_i hn
    rw [List.nodup_append]
    refine ⟨h, by simp, ?_⟩
    intro a ha b hb e
    simp only [List.mem_singleton] at hb
    subst hb
    subst e
    exact hn ha
theorem nodup_add : ∀ (ps : List Nat) {S : List Nat}, S.Nodup → (addS S ps).Nodup
  | [], _, h => h
  | p :: ps, _, h => nodup_add ps (nodup_ins h p)
theorem good_nil : Good [] := ⟨List.nodup_nil, fun p hp => by cases hp⟩
theorem good_add {S : List Nat} (h : Good S) (seed : Nat) (l : List UInt8) : Good (addS S (pls seed l)) :=
  ⟨nodup_add _ h.1, fun p hp => ((mem_add _ _ _).1 hp).elim (h.2 p) (pls_lt _ _ p)⟩
theorem len_ins (S : List Nat) (p : Nat) : S.length ≤ (insS S p).length ∧ (insS S p).length ≤ S.length + 1 := by
  unfold insS
  split
  · omega
  · simp
theorem len_add : ∀ (ps S : List Nat), S.length ≤ (addS S ps).length ∧ (addS S ps).length ≤ S.length + ps.length
  | [], S => by simp [addS]
  | p :: ps, S => by
    have h1 := len_ins S p
    have h2 := len_add ps (insS S p)
    have h3 : addS S (p :: ps) = addS (insS S p) ps := rfl
    rw [h3, List.length_cons]
    omega
theorem add_had : ∀ (ps S : List Nat), hasS S ps = true → addS S ps = S
  | [], _, _ => rfl
  | p :: ps, S, h => by
    rw [hasS_iff] at h
    have h1 : insS S p = S := if_pos (h p (List.mem_cons_self))
    show addS (insS S p) ps = S
    rw [h1]
    exact add_had ps S ((hasS_iff _ _).2 fun q hq => h q (List.mem_cons_of_mem _ hq))
theorem add_not : ∀ (ps S : List Nat), hasS S ps = false → S.length < (addS S ps).length
  | [], _, h => by cases h
  | p :: ps, S, h => by
    have h3 : addS S (p :: ps) = addS (insS S p) ps := rfl
    rw [h3]
    by_cases hp : p ∈ S
    · have h1 : insS S p = S := if_pos hp
      rw [h1]
      refine add_not ps S ?_
      have : hasS S (p :: ps) = (decide (p ∈ S) && hasS S ps) := rfl
      rw [this, decide_eq_true hp, Bool.true_and] at h
      exact h
    · have h1 : insS S p = S ++ [p] := if_neg hp
      have h2 := (len_add ps (insS S p)).1
      rw [h1, List.length_append] at h2
      rw [h1]
      simp only [List.length_singleton] at h2
      omega
/-- A text was there just if adding it sets no more places. -/
theorem had_iff (S ps : List Nat) : (((addS S ps).length : Int) == (S.length : Int)) = hasS S ps := by
  cases h : hasS S ps
  · have := add_not ps S h
    exact beq_eq_false_iff_ne.2 (by omega)
  · rw [add_had ps S h]
    simp
theorem has_add (S ps : List Nat) : hasS (addS S ps) ps = true := (hasS_iff _ _).2 fun _ hp => (mem_add _ _ _).2 (.inr hp)
theorem has_sub {S T ps : List Nat} (h : ∀ p ∈ S, p ∈ T) (hs : hasS S ps = true) : hasS T ps = true := (hasS_iff _ _).2 fun p hp => h p ((hasS_iff _ _).1 hs p hp)
theorem has_same {S T : List Nat} (h : ∀ p, p ∈ S ↔ p ∈ T) (ps : List Nat) : hasS S ps = hasS T ps := by
  unfold hasS
  congr 1
  funext p
  exact decide_eq_decide.2 (h p)
theorem has_nil (seed : Nat) (l : List UInt8) : hasS [] (pls seed l) = false := rfl
theorem len_sub : ∀ {S T : List Nat}, S.Nodup → (∀ p ∈ S, p ∈ T) → S.length ≤ T.length
  | [], _, _, _ => Nat.zero_le _
  | x :: S, T, hn, h => by
    rw [List.nodup_cons] at hn
    have hx : x ∈ T := h x List.mem_cons_self
    have h1 := len_sub (S := S) (T := T.erase x) hn.2 fun p hp => (List.mem_erase_of_ne (fun (e : p = x) => hn.1 (e ▸ hp))).2 (h p (List.mem_cons_of_mem _ hp))
    rw [List.length_erase_of_mem hx] at h1
    have h2 : 0 < T.length := List.length_pos_of_mem hx
    rw [List.length_cons]
    omega
theorem len_same {S T : List Nat} (hS : S.Nodup) (hT : T.Nodup) (h : ∀ p, p ∈ S ↔ p ∈ T) : S.length = T.length :=
  Nat.le_antisymm (len_sub hS fun p => (h p).1) (len_sub hT fun p => (h p).2)
theorem good_len {S : List Nat} (h : Good S) : S.length ≤ 512 := by
  have := len_sub h.1 (T := List.range 512) fun p hp => List.mem_range.2 (h.2 p hp)
  rwa [List.length_range] at this
/-- Where all 512 places are set, every text is there. -/
theorem full_has {S : List Nat} (h : Good S) (hl : 512 ≤ S.length) (seed : Nat) (l : List UInt8) : hasS S (pls seed l) = true := by
  refine (hasS_iff _ _).2 fun p hp => ?_
  by_cases hm : p ∈ S
  · exact hm
  · have h1 : Good (p :: S) := ⟨List.nodup_cons.2 ⟨hm, h.1⟩, fun q hq => by
      rcases List.mem_cons.1 hq with rfl | h2
      · exact pls_lt _ _ _ hp
      · exact h.2 q h2⟩
    have := good_len h1
    rw [List.length_cons] at this
    omega

/-- All these texts, one behind the other. -/
def addAll (seed : Nat) (S : List Nat) (ls : List (List UInt8)) : List Nat := ls.foldl (fun S l => addS S (pls seed l)) S
theorem mem_all (seed : Nat) : ∀ (ls : List (List UInt8)) (S : List Nat) (q : Nat), q ∈ addAll seed S ls ↔ q ∈ S ∨ ∃ l ∈ ls, q ∈ pls seed l
  | [], S, q => by simp [addAll]
  | l :: ls, S, q => by
    show q ∈ addAll seed (addS S (pls seed l)) ls ↔ _
    rw [mem_all seed ls, mem_add]
    simp [or_assoc]
theorem good_all (seed : Nat) : ∀ (ls : List (List UInt8)) {S : List Nat}, Good S → Good (addAll seed S ls)
  | [], _, h => h
  | l :: ls, _, h => good_all seed ls (good_add h seed l)
theorem len_all (seed : Nat) : ∀ (ls : List (List UInt8)) (S : List Nat), S.length ≤ (addAll seed S ls).length ∧ (addAll seed S ls).length ≤ S.length + 3 * ls.length
  | [], S => by simp [addAll]
  | l :: ls, S => by
    have h1 := len_add (pls seed l) S
    have h2 := len_all seed ls (addS S (pls seed l))
    have h3 : addAll seed S (l :: ls) = addAll seed (addS S (pls seed l)) ls := rfl
    rw [pls_len] at h1
    rw [h3, List.length_cons]
    omega
theorem all_snoc (seed : Nat) (S : List Nat) (ls : List (List UInt8)) (l : List UInt8) : addAll seed S (ls ++ [l]) = addS (addAll seed S ls) (pls seed l) := by
  simp only [addAll, List.foldl_append, List.foldl_cons, List.foldl_nil]
theorem has_all (seed : Nat) (S : List Nat) (ls : List (List UInt8)) (l : List UInt8) (h : l ∈ ls) : hasS (addAll seed S ls) (pls seed l) = true :=
  (hasS_iff _ _).2 fun p hp => (mem_all seed ls S p).2 (.inr ⟨l, h, hp⟩)
end Go.Proofs.YthfkcbnabnmnjabGreatDoor

namespace Go.Proofs.YthfkcbnabnmnjabGreatDoor

/-- The place of a text in a row, among all counters, row behind row. -/
def plc (sd : Nat) (l : List UInt8) (i : Nat) : Nat := i * 64 + ofN ((sd + i) % 18446744073709551616) l % 64
def plcs (sd : Nat) (l : List UInt8) : List Nat := [plc sd l 0, plc sd l 1, plc sd l 2, plc sd l 3]
/-- One more, up to 15. -/
def inc (C : List Nat) (p : Nat) : List Nat := if C.getD p 0 < 15 then C.set p (C.getD p 0 + 1) else C
def incs (C ps : List Nat) : List Nat := ps.foldl inc C
/-- Counters and age. -/
abbrev St := List Nat × Nat
def fresh : St := (List.replicate 256 0, 0)
def halved (st : St) : Bool := decide (640 ≤ st.2 + 1)
def addK (sd : Nat) (st : St) (l : List UInt8) : St := if halved st then ((incs st.1 (plcs sd l)).map (· / 2), 320) else (incs st.1 (plcs sd l), st.2 + 1)
/-- The least of some counters. -/
def cnt (C ps : List Nat) : Nat := ps.foldl (fun n p => min n (C.getD p 0)) 15
structure GoodK (st : St) : Prop where
  len : st.1.length = 256
  le : ∀ c ∈ st.1, c ≤ 15
  age : st.2 < 640

theorem plc_row (sd : Nat) (l : List UInt8) (i : Nat) : i * 64 ≤ plc sd l i ∧ plc sd l i < i * 64 + 64 := by
  unfold plc
  have := Nat.mod_lt (ofN ((sd + i) % 18446744073709551616) l) (show 0 < 64 by decide)
  omega
theorem plcs_lt (sd : Nat) (l : List UInt8) : ∀ p ∈ plcs sd l, p < 256 := by
  have h0 := plc_row sd l 0
  have h1 := plc_row sd l 1
  have h2 := plc_row sd l 2
  have h3 := plc_row sd l 3
  intro p hp
  simp only [plcs, List.mem_cons, List.not_mem_nil, or_false] at hp
  omega
theorem plcs_nodup (sd : Nat) (l : List UInt8) : (plcs sd l).Nodup := by
  have h0 := plc_row sd l 0
  have h1 := plc_row sd l 1
  have h2 := plc_row sd l 2
  have h3 := plc_row sd l 3
  simp only [plcs, List.nodup_cons, List.mem_cons, List.not_mem_nil, or_false, List.nodup_nil, not_false_eq_true, and_true]
  omega
theorem inc_len (C : List Nat) (p : Nat) : (inc C p).length = C.length := by
  unfold inc
  split
  · rw [List.length_set]
  · rfl
theorem incs_len : ∀ (ps C : List Nat), (incs C ps).length = C.length
  | [], _ => rfl
  | p :: ps, C => (incs_len ps (inc C p)).trans (inc_len C p)
theorem inc_get (C : List Nat) (p q : Nat) (hp : p < C.length) (hC : ∀ c ∈ C, c ≤ 15) : (inc C p).getD q 0 = if p = q then min (C.getD q 0 + 1) 15 else C.getD q 0 := by
  have hle : C.getD p 0 ≤ 15 := by
    simp only [List.getD, List.getElem?_eq_getElem hp, Option.getD_some]
    exact hC _ (List.getElem_mem hp)
  unfold inc
  by_cases e : p = q
  · subst e
    rw [if_pos rfl]
    split
    · simp only [List.getD, List.getElem?_set_self hp, Option.getD_some]
      simp only [List.getD] at *
      omega
    · omega
  · rw [if_neg e]
    split
    · simp only [List.getD, List.getElem?_set_ne e]
    · rfl
theorem inc_le (C : List Nat) (p : Nat) (hC : ∀ c ∈ C, c ≤ 15) : ∀ c ∈ inc C p, c ≤ 15 := by
  intro c hc
  unfold inc at hc
  split at hc
  · rcases List.mem_or_eq_of_mem_set hc with h | h
    · exact hC c h
    · omega
  · exact hC c hc
theorem incs_le : ∀ (ps C : List Nat), (∀ c ∈ C, c ≤ 15) → ∀ c ∈ incs C ps, c ≤ 15
  | [], _, h => h
  | p :: ps, C, h => incs_le ps (inc C p) (inc_le C p h)
theorem incs_get : ∀ (ps C : List Nat) (q : Nat), ps.Nodup → (∀ p ∈ ps, p < C.length) → (∀ c ∈ C, c ≤ 15) → (incs C ps).getD q 0 = if q ∈ ps then min (C.getD q 0 + 1) 15 else C.getD q 0
  | [], C, q, _, _, _ => by simp [incs]
  | p :: ps, C, q, hn, hl, hC => by
    rw [List.nodup_cons] at hn
    have hp := hl p List.mem_cons_self
    have ih := incs_get ps (inc C p) q hn.2 (fun x hx => by rw [inc_len]; exact hl x (List.mem_cons_of_mem _ hx)) (inc_le C p hC)
    show (incs (inc C p) ps).getD q 0 = _
    rw [ih, inc_get C p q hp hC]
    by_cases e : p = q
    · subst e
      rw [if_neg hn.1, if_pos rfl, if_pos List.mem_cons_self]
    · rw [if_neg e]
      by_cases hq : q ∈ ps
      · rw [if_pos hq, if_pos (List.mem_cons_of_mem _ hq)]
      · rw [if_neg hq, if_neg (fun h => (List.mem_cons.1 h).elim (fun x => e x.symm) hq)]
theorem get_le {C : List Nat} (h : ∀ c ∈ C, c ≤ 15) (q : Nat) : C.getD q 0 ≤ 15 := by
  by_cases hq : q < C.length
  · simp only [List.getD, List.getElem?_eq_getElem hq, Option.getD_some]
    exact h _ (List.getElem_mem hq)
  · simp [List.getD, List.getElem?_eq_none (Nat.le_of_not_lt hq)]
theorem half_get (C : List Nat) (q : Nat) : (C.map (· / 2)).getD q 0 = C.getD q 0 / 2 := by
  simp only [List.getD, List.getElem?_map]
  cases C[q]? <;> rfl
theorem good_fresh : GoodK fresh := ⟨List.length_replicate, fun c hc => by rw [List.eq_of_mem_replicate hc]; omega, by decide⟩
theorem fresh_get (q : Nat) : fresh.1.getD q 0 = 0 := by
  simp only [fresh, List.getD, List.getElem?_replicate]
  split <;> rfl
theorem good_addK {st : St} (h : GoodK st) (sd : Nat) (l : List UInt8) : GoodK (addK sd st l) := by
  unfold addK
  by_cases hh : halved st = true
  · rw [if_pos hh]
    refine ⟨by rw [List.length_map, incs_len]; exact h.len, fun c hc => ?_, show 320 < 640 by decide⟩
    obtain ⟨x, hx, rfl⟩ := List.mem_map.1 hc
    have := incs_le _ _ h.le x hx
    omega
  · rw [if_neg hh]
    refine ⟨by rw [incs_len]; exact h.len, incs_le _ _ h.le, ?_⟩
    simp only [halved, decide_eq_true_eq] at hh
    show st.2 + 1 < 640
    omega
/-- What one addition does to a counter. -/
theorem addK_get {st : St} (h : GoodK st) (sd : Nat) (l : List UInt8) (q : Nat) :
    (addK sd st l).1.getD q 0 = if halved st then (if q ∈ plcs sd l then min (st.1.getD q 0 + 1) 15 else st.1.getD q 0) / 2 else (if q ∈ plcs sd l then min (st.1.getD q 0 + 1) 15 else st.1.getD q 0) := by
  have hi := incs_get (plcs sd l) st.1 q (plcs_nodup sd l) (fun p hp => by rw [h.len]; exact plcs_lt sd l p hp) h.le
  unfold addK
  by_cases hh : halved st = true
  · rw [if_pos hh, if_pos hh]
    show ((incs st.1 (plcs sd l)).map (· / 2)).getD q 0 = _
    rw [half_get, hi]
  · rw [if_neg hh, if_neg hh]
    exact hi
theorem addK_age (sd : Nat) (st : St) (l : List UInt8) : (addK sd st l).2 = if halved st then 320 else st.2 + 1 := by
  unfold addK
  split <;> rfl

theorem cnt_fold : ∀ (ps C : List Nat) (n : Nat), ps.foldl (fun n p => min n (C.getD p 0)) n ≤ n ∧ (∀ p ∈ ps, ps.foldl (fun n p => min n (C.getD p 0)) n ≤ C.getD p 0) ∧ ∀ m, m ≤ n → (∀ p ∈ ps, m ≤ C.getD p 0) → m ≤ ps.foldl (fun n p => min n (C.getD p 0)) n
  | [], _, n => ⟨Nat.le_refl _, (fun p hp => (List.not_mem_nil hp).elim), fun m hm _ => hm⟩
  | x :: ps, C, n => by
    obtain ⟨h1, h2, h3⟩ := cnt_fold ps C (min n (C.getD x 0))
    refine ⟨Nat.le_trans h1 (Nat.min_le_left _ _), fun p hp => ?_, fun m hm hall => h3 m (Nat.le_min.2 ⟨hm, hall x List.mem_cons_self⟩) fun p hp => hall p (List.mem_cons_of_mem _ hp)⟩
    rcases List.mem_cons.1 hp with rfl | hp
    · exact Nat.le_trans h1 (Nat.min_le_right _ _)
    · exact h2 p hp
theorem cnt_le (C ps : List Nat) : cnt C ps ≤ 15 := (cnt_fold ps C 15).1
theorem cnt_le_of (C ps : List Nat) (p : Nat) (hp : p ∈ ps) : cnt C ps ≤ C.getD p 0 := (cnt_fold ps C 15).2.1 p hp
theorem le_cnt (C ps : List Nat) (m : Nat) (hm : m ≤ 15) (h : ∀ p ∈ ps, m ≤ C.getD p 0) : m ≤ cnt C ps := (cnt_fold ps C 15).2.2 m hm h
theorem cnt_all (C : List Nat) (sd : Nat) (l : List UInt8) (v : Nat) (hv : v ≤ 15) (h : ∀ p ∈ plcs sd l, C.getD p 0 = v) : cnt C (plcs sd l) = v :=
  Nat.le_antisymm (by rw [← h (plc sd l 0) (by simp [plcs])]; exact cnt_le_of _ _ _ (by simp [plcs])) (le_cnt _ _ _ hv fun p hp => by rw [h p hp]; exact Nat.le_refl _)
theorem cnt_fresh (sd : Nat) (l : List UInt8) : cnt fresh.1 (plcs sd l) = 0 := cnt_all _ _ _ 0 (by decide) fun p _ => fresh_get p
/-- The chapter's example. -/
theorem cnt_two (sd : Nat) (l : List UInt8) : cnt (addK sd (addK sd fresh l) l).1 (plcs sd l) = 2 ∧ (addK sd (addK sd fresh l) l).2 = 2 ∧ halved fresh = false ∧ halved (addK sd fresh l) = false := by
  have a0 : halved fresh = false := rfl
  have e1 : (addK sd fresh l).2 = 1 := by rw [addK_age, a0]; rfl
  have a1 : halved (addK sd fresh l) = false := by unfold halved; rw [e1]; rfl
  refine ⟨cnt_all _ _ _ 2 (by decide) fun p hp => ?_, ?_, a0, a1⟩
  · rw [addK_get (good_addK good_fresh sd l), a1, addK_get good_fresh, a0, if_pos hp, if_pos hp, fresh_get]
    rfl
  · rw [addK_age, a1, e1]
    rfl

/-- What was added so often has as much, or 15. -/
def Least (st : St) (ps : List Nat) (n : Nat) : Prop := ∀ p ∈ ps, min n 15 ≤ st.1.getD p 0
theorem least_fresh (ps : List Nat) : Least fresh ps 0 := fun p _ => by rw [fresh_get]; exact Nat.min_le_left _ _
theorem least_same {st : St} (h : GoodK st) (sd : Nat) (l : List UInt8) (n : Nat) (hh : halved st = false) (hl : Least st (plcs sd l) n) : Least (addK sd st l) (plcs sd l) (n + 1) := fun p hp => by
  have := hl p hp
  rw [addK_get h, hh, if_pos hp]
  simp only [Bool.false_eq_true, if_false]
  omega
theorem least_more {st : St} (h : GoodK st) (sd : Nat) (l : List UInt8) (ps : List Nat) (n : Nat) (hh : halved st = false) (hl : Least st ps n) : Least (addK sd st l) ps n := fun p hp => by
  have h1 := hl p hp
  have h2 := get_le h.le p
  rw [addK_get h, hh]
  simp only [Bool.false_eq_true, if_false]
  split <;> omega
theorem least_cnt {st : St} {ps : List Nat} {n : Nat} (h : Least st ps n) : min n 15 ≤ cnt st.1 ps := le_cnt _ _ _ (Nat.min_le_right _ _) h
theorem half_cnt {st : St} (h : GoodK st) (sd sd' : Nat) (l l' : List UInt8) (hh : halved st = true) : cnt (addK sd st l).1 (plcs sd' l') ≤ 7 := by
  have h1 := cnt_le_of (addK sd st l).1 (plcs sd' l') (plc sd' l' 0) (by simp [plcs])
  have h2 := get_le h.le (plc sd' l' 0)
  rw [addK_get h, hh] at h1
  simp only [if_true] at h1
  split at h1 <;> omega

/-- No counter is more than how many were added. -/
def Most (st : St) (n : Nat) : Prop := st.2 = n ∧ ∀ q, st.1.getD q 0 ≤ n
theorem most_fresh : Most fresh 0 := ⟨rfl, fun q => by rw [fresh_get]; exact Nat.le_refl _⟩
theorem most_step {st : St} (h : GoodK st) (sd : Nat) (l : List UInt8) (n : Nat) (hh : halved st = false) (hm : Most st n) : Most (addK sd st l) (n + 1) := by
  refine ⟨by rw [addK_age, hh, hm.1]; rfl, fun q => ?_⟩
  have := hm.2 q
  rw [addK_get h, hh]
  simp only [Bool.false_eq_true, if_false]
  split <;> omega
theorem most_cnt {st : St} {n : Nat} (h : Most st n) (sd : Nat) (l : List UInt8) : cnt st.1 (plcs sd l) ≤ n := Nat.le_trans (cnt_le_of _ _ (plc sd l 0) (by simp [plcs])) (h.2 _)

/-- One text, added again and again. -/
def Alone (st : St) (ps : List Nat) (i : Nat) : Prop := st.2 = (if i < 640 then i else 320 + (i - 640) % 320) ∧ ∀ p ∈ ps, st.1.getD p 0 = (if i < 640 then min i 15 else min (7 + (i - 640) % 320) 15)
theorem alone_fresh (ps : List Nat) : Alone fresh ps 0 := ⟨rfl, fun p _ => by rw [fresh_get]; rfl⟩
theorem alone_halved {st : St} {ps : List Nat} {i : Nat} (h : Alone st ps i) : halved st = decide (640 ≤ i + 1 ∧ (i + 1 - 640) % 320 = 0) := by
  unfold halved
  rw [h.1]
  apply decide_eq_decide.2
  split <;> omega
theorem alone_step {st : St} (hg : GoodK st) (sd : Nat) (l : List UInt8) (i : Nat) (h : Alone st (plcs sd l) i) : Alone (addK sd st l) (plcs sd l) (i + 1) ∧ (halved st = true → cnt (addK sd st l).1 (plcs sd l) = 7) := by
  have hh := alone_halved h
  cases e : halved st with
  | true =>
    rw [e] at hh
    have h1 := of_decide_eq_true hh.symm
    have each : ∀ p ∈ plcs sd l, (addK sd st l).1.getD p 0 = 7 := fun p hp => by
      rw [addK_get hg, e, if_pos hp, h.2 p hp]
      simp only [if_true]
      split <;> omega
    refine ⟨⟨?_, fun p hp => ?_⟩, fun _ => cnt_all _ _ _ 7 (by decide) each⟩
    · rw [addK_age, e]
      simp only [if_true]
      rw [if_neg (by omega), h1.2]
    · rw [each p hp, if_neg (by omega), h1.2]
      rfl
  | false =>
    rw [e] at hh
    have h1 := of_decide_eq_false hh.symm
    refine ⟨⟨?_, fun p hp => ?_⟩, fun h => by cases h⟩
    · rw [addK_age, e, h.1]
      simp only [Bool.false_eq_true, if_false]
      split <;> split <;> omega
    · rw [addK_get hg, e, if_pos hp, h.2 p hp]
      simp only [Bool.false_eq_true, if_false]
      split <;> split <;> omega
end Go.Proofs.YthfkcbnabnmnjabGreatDoor

namespace Go.Proofs.YthfkcbnabnmnjabGreatDoor

/-- A filter's places, a sketch's counters and age. -/
abbrev Js := List Nat × St
def sd1 (sd : Nat) : Nat := (sd + 1) % 18446744073709551616
def freshJ : Js := ([], fresh)
def hadJ (sd : Nat) (j : Js) (l : List UInt8) : Bool := hasS j.1 (pls sd l)
def touchJ (sd : Nat) (j : Js) (l : List UInt8) : Js :=
  if hadJ sd j l then (if halved j.2 then ([], addK (sd1 sd) j.2 l) else (addS j.1 (pls sd l), addK (sd1 sd) j.2 l)) else (addS j.1 (pls sd l), j.2)
def worthJ (sd : Nat) (j : Js) (l : List UInt8) : Nat := cnt j.2.1 (plcs (sd1 sd) l) + (if hadJ sd j l then 1 else 0)
structure GoodJ (j : Js) : Prop where
  set : Good j.1
  st : GoodK j.2
theorem good_freshJ : GoodJ freshJ := ⟨good_nil, good_fresh⟩
theorem good_touch {j : Js} (h : GoodJ j) (sd : Nat) (l : List UInt8) : GoodJ (touchJ sd j l) := by
  unfold touchJ
  split
  · split
    · exact ⟨good_nil, good_addK h.st _ l⟩
    · exact ⟨good_add h.set sd l, good_addK h.st _ l⟩
  · exact ⟨good_add h.set sd l, h.st⟩
theorem worth_le (sd : Nat) (j : Js) (l : List UInt8) : worthJ sd j l ≤ 16 := by
  unfold worthJ
  have := cnt_le j.2.1 (plcs (sd1 sd) l)
  split <;> omega
theorem worth_fresh (sd : Nat) (l : List UInt8) : worthJ sd freshJ l = 0 := by
  unfold worthJ freshJ
  rw [cnt_fresh]
  rfl
/-- A counter is not less behind an addition that halves nothing. -/
theorem cnt_more {st : St} (h : GoodK st) (sd sd' : Nat) (l l' : List UInt8) (hh : halved st = false) : cnt st.1 (plcs sd' l') ≤ cnt (addK sd st l).1 (plcs sd' l') :=
  le_cnt _ _ _ (cnt_le _ _) fun p hp => by
    have h1 := cnt_le_of st.1 (plcs sd' l') p hp
    have h2 := get_le h.le p
    rw [addK_get h, hh]
    simp only [Bool.false_eq_true, if_false]
    split <;> omega
/-- And not more behind one that halves all. -/
theorem cnt_less {st : St} (h : GoodK st) (sd sd' : Nat) (l l' : List UInt8) (hh : halved st = true) : cnt (addK sd st l).1 (plcs sd' l') ≤ cnt st.1 (plcs sd' l') :=
  le_cnt _ _ _ (cnt_le _ _) fun p hp => by
    have h1 := cnt_le_of (addK sd st l).1 (plcs sd' l') p hp
    rw [addK_get h, hh] at h1
    simp only [if_true] at h1
    split at h1 <;> omega
theorem used_more {j : Js} (h : GoodJ j) (sd : Nat) (l : List UInt8) (hh : (hadJ sd j l && halved j.2) = false) : worthJ sd j l ≤ worthJ sd (touchJ sd j l) l ∧ 1 ≤ worthJ sd (touchJ sd j l) l := by
  have hadd : hasS (addS j.1 (pls sd l)) (pls sd l) = true := has_add _ _
  cases e : hadJ sd j l with
  | true =>
    rw [e, Bool.true_and] at hh
    have hc := cnt_more h.st (sd1 sd) (sd1 sd) l l hh
    have ht : touchJ sd j l = (addS j.1 (pls sd l), addK (sd1 sd) j.2 l) := by
      unfold touchJ
      rw [if_pos e, hh]
      rfl
    unfold worthJ
    rw [ht, e]
    unfold hadJ
    rw [hadd]
    simp only [if_true]
    omega
  | false =>
    have ht : touchJ sd j l = (addS j.1 (pls sd l), j.2) := by
      unfold touchJ
      rw [e]
      rfl
    unfold worthJ
    rw [ht, e]
    unfold hadJ
    rw [hadd]
    simp only [if_true, Bool.false_eq_true, if_false]
    omega
theorem touch_half {j : Js} (sd : Nat) (l : List UInt8) (hh : (hadJ sd j l && halved j.2) = true) : touchJ sd j l = ([], addK (sd1 sd) j.2 l) ∧ halved j.2 = true := by
  rw [Bool.and_eq_true] at hh
  refine ⟨?_, hh.2⟩
  unfold touchJ
  rw [if_pos hh.1, if_pos hh.2]
theorem used_less {j : Js} (h : GoodJ j) (sd : Nat) (l m : List UInt8) (hh : (hadJ sd j l && halved j.2) = true) : worthJ sd (touchJ sd j l) l ≤ 8 ∧ worthJ sd (touchJ sd j l) m ≤ worthJ sd j m := by
  obtain ⟨ht, hv⟩ := touch_half sd l hh
  have h1 := half_cnt h.st (sd1 sd) (sd1 sd) l l hv
  have h2 := cnt_less h.st (sd1 sd) (sd1 sd) l m hv
  have e : ∀ k, hadJ sd ([], addK (sd1 sd) j.2 l) k = false := fun k => has_nil sd k
  unfold worthJ
  rw [ht, e, e]
  simp only [Bool.false_eq_true, if_false]
  omega
/-- One text, touched so often, and no other. -/
def AloneJ (sd : Nat) (j : Js) (l : List UInt8) (i : Nat) : Prop := (i = 0 ∧ j = freshJ) ∨ (1 ≤ i ∧ hadJ sd j l = true ∧ j.2.2 = i - 1 ∧ ∀ p ∈ plcs (sd1 sd) l, j.2.1.getD p 0 = min (i - 1) 15)
theorem aloneJ_worth {sd : Nat} {j : Js} {l : List UInt8} {i : Nat} (h : AloneJ sd j l i) : worthJ sd j l = min i 16 := by
  rcases h with ⟨rfl, rfl⟩ | ⟨h1, h2, _, h4⟩
  · rw [worth_fresh]
    rfl
  · unfold worthJ
    rw [h2, cnt_all _ _ _ (min (i - 1) 15) (Nat.min_le_right _ _) h4]
    simp only [if_true]
    omega
theorem aloneJ_step {sd : Nat} {j : Js} {l : List UInt8} {i : Nat} (hg : GoodJ j) (h : AloneJ sd j l i) (hi : i < 600) : AloneJ sd (touchJ sd j l) l (i + 1) := by
  rcases h with ⟨rfl, rfl⟩ | ⟨h1, h2, h3, h4⟩
  · have e : hadJ sd freshJ l = false := has_nil sd l
    have ht : touchJ sd freshJ l = (addS [] (pls sd l), fresh) := by
      unfold touchJ
      rw [e]
      rfl
    rw [ht]
    exact .inr ⟨Nat.le_refl _, has_add _ _, rfl, fun p _ => by rw [fresh_get]; rfl⟩
  · have hv : halved j.2 = false := by
      unfold halved
      exact decide_eq_false (by omega)
    have ht : touchJ sd j l = (addS j.1 (pls sd l), addK (sd1 sd) j.2 l) := by
      unfold touchJ
      rw [if_pos h2, hv]
      rfl
    rw [ht]
    refine .inr ⟨by omega, has_add _ _, ?_, fun p hp => ?_⟩
    · show (addK (sd1 sd) j.2 l).2 = _
      rw [addK_age, hv, h3]
      simp only [Bool.false_eq_true, if_false]
      omega
    · show (addK (sd1 sd) j.2 l).1.getD p 0 = _
      rw [addK_get hg.st, hv, if_pos hp, h4 p hp]
      simp only [Bool.false_eq_true, if_false]
      omega
/-- The chapter's example. -/
theorem worth_two (sd : Nat) (l : List UInt8) : worthJ sd (touchJ sd freshJ l) l = 1 ∧ worthJ sd (touchJ sd (touchJ sd freshJ l) l) l = 2 := by
  have a1 := aloneJ_step good_freshJ (.inl ⟨rfl, rfl⟩ : AloneJ sd freshJ l 0) (by decide)
  have a2 := aloneJ_step (good_touch good_freshJ sd l) a1 (by decide)
  exact ⟨aloneJ_worth a1, aloneJ_worth a2⟩
end Go.Proofs.YthfkcbnabnmnjabGreatDoor
