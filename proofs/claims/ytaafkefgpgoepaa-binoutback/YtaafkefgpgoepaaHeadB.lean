/- Heads of the binary dialect: parts of bytes, and the numbers in them. Conditions: none. -/
import Derived.Test.YtaafkefgpgoepaaNumBe
namespace Go.Proofs.Ytaafkefgpgoepaa
set_option linter.unusedVariables false
open Go.RowKit

/-- A part of bytes. -/
theorem Bu.part {w : World} {g off L c : Nat} {l : List UInt8} (h : Bu w (some ⟨g, off, none⟩) L c l) (i m : Nat) (hi : i + m ≤ L) : Bu w (some ⟨g, off + i, none⟩) m (c - i) ((l.drop i).take m) := by
  have hc := h.c
  have hm := h.m
  refine ⟨by rw [List.length_take, List.length_drop, h.n]; omega, ?_, by omega, by omega⟩
  by_cases h0 : m = 0
  · exact .inl ⟨h0, by rw [h0]; rfl, fun e => by cases e⟩
  · rcases h.b with ⟨h4, _, _⟩ | ⟨b, off', r⟩
    · omega
    · obtain ⟨rfl, rfl⟩ : g = b ∧ off = off' := by have := r.at_; cases this; exact ⟨rfl, rfl⟩
      refine .inr ⟨g, off + i, rfl, by omega, by omega, by rw [ints_len, List.length_take, List.length_drop, h.n]; omega, ints_byt _, fun k hk => ?_, r.old⟩
      have := r.cell (i + k) (by omega)
      rw [← Nat.add_assoc] at this
      rw [this, getD_take _ hk, getD_cut]
theorem numB_four {l : List UInt8} (h : l.length = 4) : numB l < 4294967296 := by
  match l, h with
  | [a, b, c, d], _ =>
    have h1 := UInt8.toNat_lt a
    have h2 := UInt8.toNat_lt b
    have h3 := UInt8.toNat_lt c
    have h4 := UInt8.toNat_lt d
    simp only [numB, List.foldl_cons, List.foldl_nil]
    omega
theorem u32_id {z : Int} (h0 : 0 ≤ z) (h1 : z < 4294967296) : IntKind.u32.wrap z = z := by
  simp only [IntKind.wrap, IntKind.signed, IntKind.bits, Bool.false_and, Bool.false_eq_true, if_false]
  omega
theorem i64_id {z : Int} (h0 : 0 ≤ z) (h1 : z < 4294967296) : IntKind.i64.wrap z = z := by
  rw [IntKind.wrap_i64]
  omega
/-- The number of n bytes from i on. -/
def getB (b : List UInt8) (i n : Nat) : Int := numB ((b.drop i).take n)
theorem first_byte {w : World} {g off len cap : Nat} {b : List UInt8} (hB : Bu w (some ⟨g, off, none⟩) len cap b) (i : Nat) (hi : i < b.length) : w.cell? ⟨g, off + i, none⟩ = some (.int .u8 ((b[i]).toNat : Int)) := by
  rcases hB.b with ⟨h, _, _⟩ | ⟨b', off', r⟩
  · have := hB.n; omega
  · obtain ⟨rfl, rfl⟩ : g = b' ∧ off = off' := by have := r.at_; cases this; exact ⟨rfl, rfl⟩
    rw [r.cell i (by have := hB.n; omega), getD_ints b i hi]
theorem numB_two {l : List UInt8} (h : l.length = 2) : numB l ≤ 65535 := by
  match l, h with
  | [a, b], _ =>
    have h1 := UInt8.toNat_lt a
    have h2 := UInt8.toNat_lt b
    simp only [numB, List.foldl_cons, List.foldl_nil]
    omega
def by1 (b : List UInt8) : Int := ((b.getD 1 0).toNat : Int)
def by4 (b : List UInt8) : Int := ((b.getD 4 0).toNat : Int)
/-- 'b[i:j]' of bytes, as an equation of every world. -/
theorem Bu.sub {w : World} {g off len cap : Nat} {l : List UInt8} (h : Bu w (some ⟨g, off, none⟩) len cap l) {i m : Nat} (hm : i + m ≤ len) (zi zj : Int) (hi : zi = (i : Int)) (hj : zj = (i : Int) + (m : Int)) : ∃ a', (∀ W : World, (Instr.sliceAt 32 (.slice (some ⟨g, off, none⟩) len cap) (some (.int .i64 zi)) (some (.int .i64 zj)) none).run Try.prog W = .ok (.slice a' m (cap - i)) W) ∧
    ∀ W : World, Bu W (some ⟨g, off, none⟩) len cap l → Bu W a' m (cap - i) ((l.drop i).take m) := by
  have hc := h.c
  obtain ⟨j, hjj⟩ : ∃ j, j = i + m := ⟨_, rfl⟩
  obtain rfl : zj = (j : Int) := by omega
  subst hi
  have h1 : (j : Int) ≤ (cap : Int) := by omega
  have h2 : (i : Int) ≤ (j : Int) := by omega
  have h4 : j - i = m := by omega
  by_cases e : cap = i
  · obtain rfl : m = 0 := by omega
    refine ⟨some ⟨g, off, none⟩, fun W => ?_, fun W H => ⟨by simp, .inl ⟨rfl, by rw [List.take_zero]; rfl, fun _ => by omega⟩, by omega, by have := H.m; omega⟩⟩
    subst e
    obtain rfl : j = cap := by omega
    clear hj hjj
    go_simp
  · refine ⟨some ⟨g, off + i, none⟩, fun W => ?_, fun W H => H.part i m hm⟩
    clear hj hjj
    go_simp
end Go.Proofs.Ytaafkefgpgoepaa
