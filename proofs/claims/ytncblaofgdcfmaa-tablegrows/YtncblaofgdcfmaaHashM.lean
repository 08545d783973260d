/- Hashes of texts under a seed, over numbers and lists alone: nothing of the program is run here. Conditions: where numbers are spoken of, they are below 2 to the 64th. -/
import Derived.Laws.Bits64
import Derived.KernelRfl
namespace Go.Proofs.Ytncblaofgdcfmaa

/-- Exclusive or with itself, shifted to the right by s places. -/
def xsh (s n : Nat) : Nat := n ^^^ n / 2 ^ s
/-- Times c, going round. -/
def mul (c n : Nat) : Nat := n * c % 18446744073709551616
def mixN (n : Nat) : Nat := xsh 31 (mul 10723151780598845931 (xsh 27 (mul 13787848793156543929 (xsh 30 n))))
def stepN (h : Nat) (c : UInt8) : Nat := mul 1099511628211 (h ^^^ c.toNat)
def runN (h : Nat) (l : List UInt8) : Nat := l.foldl stepN h
def ofN (seed : Nat) (l : List UInt8) : Nat := mixN (runN (mixN seed) l)

theorem xor_lt {a b : Nat} (ha : a < 18446744073709551616) (hb : b < 18446744073709551616) : a ^^^ b < 18446744073709551616 := by
  have h : a ^^^ b < 2 ^ 64 := Nat.xor_lt_two_pow (by omega) (by omega)
  omega
theorem xsh_lt (s : Nat) {n : Nat} (h : n < 18446744073709551616) : xsh s n < 18446744073709551616 :=
  xor_lt h (Nat.lt_of_le_of_lt (Nat.div_le_self _ _) h)
theorem mul_lt (c n : Nat) : mul c n < 18446744073709551616 := Nat.mod_lt _ (by decide)
theorem mix_lt (n : Nat) : mixN n < 18446744073709551616 := xsh_lt _ (mul_lt _ _)
theorem step_lt (h : Nat) (c : UInt8) : stepN h c < 18446744073709551616 := mul_lt _ _

theorem xor_div (a b s : Nat) : (a ^^^ b) / 2 ^ s = a / 2 ^ s ^^^ b / 2 ^ s := by
  rw [← Nat.shiftRight_eq_div_pow, ← Nat.shiftRight_eq_div_pow, ← Nat.shiftRight_eq_div_pow, Nat.shiftRight_xor_distrib]
theorem xor_eq_zero {a b : Nat} (h : a ^^^ b = 0) : a = b := by
  have h2 : a ^^^ b ^^^ b = b := by rw [h, Nat.zero_xor]
  rw [Nat.xor_assoc, Nat.xor_self, Nat.xor_zero] at h2
  exact h2
theorem xsh_inj (s : Nat) (hs : 1 ≤ s) {a b : Nat} (h : xsh s a = xsh s b) : a = b := by
  apply xor_eq_zero
  have h1 : a ^^^ b = (a ^^^ b) / 2 ^ s := by
    unfold xsh at h
    rw [xor_div]
    have h2 : (a ^^^ a / 2 ^ s) ^^^ (b ^^^ b / 2 ^ s) = 0 := by rw [h, Nat.xor_self]
    apply xor_eq_zero
    rw [← h2]
    generalize a / 2 ^ s = x
    generalize b / 2 ^ s = y
    rw [Nat.xor_assoc, Nat.xor_assoc]
    congr 1
    rw [← Nat.xor_assoc, ← Nat.xor_assoc, Nat.xor_comm b x]
  have h3 : (a ^^^ b) / 2 ^ s ≤ (a ^^^ b) / 2 := Nat.div_le_div_left (by
    have := Nat.pow_le_pow_right (show 0 < 2 by decide) hs
    omega) (by decide)
  omega
theorem mul_inv (c i : Nat) (hi : c * i % 18446744073709551616 = 1) {n : Nat} (h : n < 18446744073709551616) : mul i (mul c n) = n := by
  unfold mul
  rw [Nat.mod_mul_mod, Nat.mul_assoc, ← Nat.mul_mod_mod, hi, Nat.mul_one]
  exact Nat.mod_eq_of_lt h
theorem mul_inj (c i : Nat) (hi : c * i % 18446744073709551616 = 1) {a b : Nat} (ha : a < 18446744073709551616) (hb : b < 18446744073709551616) (h : mul c a = mul c b) : a = b := by
  rw [← mul_inv c i hi ha, ← mul_inv c i hi hb, h]

/-- Two numbers have one Mix just if they are the same. -/
theorem mix_inj {a b : Nat} (ha : a < 18446744073709551616) (hb : b < 18446744073709551616) (h : mixN a = mixN b) : a = b := by
  unfold mixN at h
  have h1 := xsh_inj 31 (by decide) h
  have h2 := mul_inj 10723151780598845931 3573116690164977347 (by decide) (xsh_lt _ (mul_lt _ _)) (xsh_lt _ (mul_lt _ _)) h1
  have h3 := xsh_inj 27 (by decide) h2
  have h4 := mul_inj 13787848793156543929 10871156337175269513 (by decide) (xsh_lt _ ha) (xsh_lt _ hb) h3
  exact xsh_inj 30 (by decide) h4
theorem byte_lt (c : UInt8) : c.toNat < 18446744073709551616 := Nat.lt_of_lt_of_le c.toNat_lt (by decide)
theorem step_inj {a b : Nat} (c : UInt8) (ha : a < 18446744073709551616) (hb : b < 18446744073709551616) (h : stepN a c = stepN b c) : a = b := by
  have h1 := mul_inj 1099511628211 14886173955864302971 (by decide) (xor_lt ha (byte_lt c)) (xor_lt hb (byte_lt c)) h
  have h2 := congrArg (· ^^^ c.toNat) h1
  simp only [Nat.xor_assoc, Nat.xor_self, Nat.xor_zero] at h2
  exact h2
theorem step_byte {a : Nat} (c d : UInt8) (ha : a < 18446744073709551616) (h : stepN a c = stepN a d) : c = d := by
  have h1 := mul_inj 1099511628211 14886173955864302971 (by decide) (xor_lt ha (byte_lt c)) (xor_lt ha (byte_lt d)) h
  have h2 := congrArg (a ^^^ ·) h1
  simp only [← Nat.xor_assoc, Nat.xor_self, Nat.zero_xor] at h2
  exact UInt8.toNat_inj.1 h2
theorem run_lt : ∀ (l : List UInt8) {h : Nat}, h < 18446744073709551616 → runN h l < 18446744073709551616
  | [], _, hh => hh
  | c :: l, h, _ => run_lt l (step_lt h c)
theorem run_inj : ∀ (l : List UInt8) {a b : Nat}, a < 18446744073709551616 → b < 18446744073709551616 → runN a l = runN b l → a = b
  | [], _, _, _, _, h => h
  | c :: l, a, b, ha, hb, h => step_inj c ha hb (run_inj l (step_lt a c) (step_lt b c) h)
theorem run_app (h : Nat) (k l : List UInt8) : runN h (k ++ l) = runN (runN h k) l := by unfold runN; rw [List.foldl_append]
theorem run_set : ∀ (l : List UInt8) (k : Nat) (hk : k < l.length) (c : UInt8) {h : Nat}, h < 18446744073709551616 → l[k] ≠ c → runN h l ≠ runN h (l.set k c)
  | x :: l, 0, _, c, h, hh, hne => fun e => hne (step_byte x c hh (run_inj l (step_lt h x) (step_lt h c) e))
  | x :: l, k + 1, hk, c, h, hh, hne => run_set l k (by simpa using hk) c (step_lt h x) (by simpa using hne)

theorem of_lt (seed : Nat) (l : List UInt8) : ofN seed l < 18446744073709551616 := mix_lt _
/-- Of two texts that are the same but for one byte the hashes under one seed are two. -/
theorem of_set (seed : Nat) (l : List UInt8) (k : Nat) (hk : k < l.length) (c : UInt8) (hne : l[k] ≠ c) : ofN seed l ≠ ofN seed (l.set k c) := fun e =>
  run_set l k hk c (mix_lt seed) hne (mix_inj (run_lt _ (mix_lt _)) (run_lt _ (mix_lt _)) e)
/-- Under two seeds that are not the same any text has two hashes. -/
theorem of_seeds (a b : Nat) (ha : a < 18446744073709551616) (hb : b < 18446744073709551616) (l : List UInt8) (hne : a ≠ b) : ofN a l ≠ ofN b l := fun e =>
  hne (mix_inj ha hb (run_inj l (mix_lt _) (mix_lt _) (mix_inj (run_lt _ (mix_lt _)) (run_lt _ (mix_lt _)) e)))
theorem mix_0 : mixN 0 = 0 := by decide +kernel
theorem mix_1 : mixN 1 = 6238072747940578789 := by decide +kernel
theorem of_0 : ofN 0 [] = 0 := by decide +kernel

/-- The walk's own words: exclusive or with a shift, a product that goes round. -/
theorem walk_xsh (s S n : Nat) (hS : S = 2 ^ s) (h : n < 18446744073709551616) : bits .xor .u64 (n : Int) ((n : Int) / (S : Int)) = ((xsh s n : Nat) : Int) := by
  rw [xorShift_u64 n S h, hS]
  rfl
theorem walk_mul (c n : Nat) : IntKind.u64.wrap ((n : Int) * (c : Int)) = ((mul c n : Nat) : Int) := by
  rw [IntKind.wrap_u64]
  obtain ⟨m, hm⟩ : ∃ m, m = n * c := ⟨_, rfl⟩
  have h1 : (n : Int) * (c : Int) = (m : Int) := by rw [hm, Int.natCast_mul]
  unfold mul
  rw [h1, ← hm]
  omega
theorem walk_xor (h c : Nat) (hh : h < 18446744073709551616) (hc : c < 18446744073709551616) : bits .xor .u64 (h : Int) (c : Int) = ((h ^^^ c : Nat) : Int) := bits_xor_u64_nat h c hh hc
end Go.Proofs.Ytncblaofgdcfmaa
