/- Results of package api, as values and in memory, as they may be read. Conditions: none. -/
import Derived.Test.YtaafkefgpgoepaaStepC
namespace Go.Proofs.Ytaafkefgpgoepaa
set_option linter.unusedVariables false
open Go.RowKit

/-- A result as a value, its bytes with it. -/
structure Rv where
  s : Int
  val : List UInt8
  fl : Int
  cas : Int
  ttl : Int
  num : Int
  st : Bool
  won : Bool
  lost : Bool
def rsC (r : Rv) (a : Option Addr) (k : Nat) : Array Value := #[.int .i64 r.s, .slice a r.val.length k, .int .u32 r.fl, .int .u64 r.cas, .int .i64 r.ttl, .int .u64 r.num, .bool r.st, .bool r.won, .bool r.lost]
theorem res_size (r : Rv) (a : Option Addr) (k : Nat) : (Try.prog.info? 46).map (·.size) = some (rsC r a k).size := by
  have h : (Try.prog.info? 46).map (·.size) = some 9 := by kernel_rfl
  exact h
theorem res_one (r : Rv) (a : Option Addr) (k : Nat) : (rsC r a k).all (·.oneCell') = true := by simp [rsC, Value.oneCell']
/-- Its numbers are within their kinds. -/
structure Rv.ok (r : Rv) : Prop where
  f0 : 0 ≤ r.fl
  f1 : r.fl < 4294967296
  c0 : 0 ≤ r.cas
  c1 : r.cas < 18446744073709551616
  n0 : 0 ≤ r.num
  n1 : r.num < 18446744073709551616
/-- A row of results that may be read, their values with them. -/
structure Ru (w : World) (a : Option Addr) (len cap : Nat) (xs : List Rv) : Prop where
  n : xs.length = len
  c : len ≤ cap
  m : cap ≤ maxLen
  ok : ∀ x ∈ xs, x.ok
  at_ : len = 0 ∨ ∃ b off, a = some ⟨b, off, none⟩ ∧ b < w.heap.size ∧ ∀ (i : Nat) (x : Rv), xs[i]? = some x → ∃ va vc, w.rangeAt b (off + i * 9) (rsC x va vc).toList ∧ Bu w va x.val.length vc x.val
section
variable {w w' : World} {a : Option Addr} {len cap : Nat}
theorem Ru.on {xs : List Rv} (h : Ru w a len cap xs) (hb : Below w.heap.size w w') : Ru w' a len cap xs := by
  refine ⟨h.n, h.c, h.m, h.ok, ?_⟩
  rcases h.at_ with h0 | ⟨b, off, e, hl, hx⟩
  · exact .inl h0
  · refine .inr ⟨b, off, e, Nat.lt_of_lt_of_le hl hb.size, fun i c hi => ?_⟩
    obtain ⟨va, vc, h1, h2⟩ := hx i c hi
    exact ⟨va, vc, fun j v hv => (hb.cell (p := ⟨b, off + i * 9 + j, none⟩) hl).trans (h1 j v hv), h2.on hb⟩
theorem Ru.get {xs : List Rv} (h : Ru w a len cap xs) {i : Nat} (hi : i < len) : ∃ b off, a = some ⟨b, off, none⟩ ∧ b < w.heap.size ∧ ∃ va vc, w.rangeAt b (off + i * 9) (rsC (xs[i]'(by rw [h.n]; exact hi)) va vc).toList ∧ Bu w va (xs[i]'(by rw [h.n]; exact hi)).val.length vc (xs[i]'(by rw [h.n]; exact hi)).val := by
  rcases h.at_ with h0 | ⟨b, off, e, hl, hx⟩
  · omega
  · exact ⟨b, off, e, hl, hx i _ (List.getElem?_eq_getElem _)⟩
theorem Ru.none_ (w : World) : Ru w none 0 0 [] := ⟨rfl, Nat.le_refl _, Nat.zero_le _, (fun x h => by cases h), .inl rfl⟩
/-- The first of them. -/
theorem Ru.front {xs : List Rv} (h : Ru w a len cap xs) {j : Nat} (hj : j ≤ len) : Ru w a j cap (xs.take j) := by
  refine ⟨by rw [List.length_take, h.n]; omega, Nat.le_trans hj h.c, h.m, fun x hx => h.ok x (List.mem_of_mem_take hx), ?_⟩
  rcases h.at_ with h0 | ⟨b, off, e, hl, hx⟩
  · exact .inl (by omega)
  · refine .inr ⟨b, off, e, hl, fun i x hi => hx i x ?_⟩
    rw [List.getElem?_take] at hi
    split at hi
    · exact hi
    · cases hi
theorem Cu.front {xs : List Cv} (h : Cu w a len cap xs) {j : Nat} (hj : j ≤ len) : Cu w a j cap (xs.take j) := by
  refine ⟨by rw [List.length_take, h.n]; omega, Nat.le_trans hj h.c, h.m, ?_⟩
  rcases h.at_ with h0 | ⟨b, off, e, hl, hx⟩
  · exact .inl (by omega)
  · refine .inr ⟨b, off, e, hl, fun i x hi => hx i x ?_⟩
    rw [List.getElem?_take] at hi
    split at hi
    · exact hi
    · cases hi
/-- 'l[i:]' -/
theorem Ru.back {xs : List Rv} (h : Ru w a len cap xs) {i : Nat} (hi : i ≤ len) : ∃ a', (∀ W : World, (Instr.sliceAt 29 (.slice a len cap) (some (.int .i64 (i : Int))) none none).run Try.prog W = .ok (.slice a' (len - i) (cap - i)) W) ∧ ∀ W : World, Ru W a len cap xs → Ru W a' (len - i) (cap - i) (xs.drop i) := by
  have hc := h.c
  have h1 : (i : Int) ≤ (len : Int) := by omega
  have h0 : ¬ (i : Int) < 0 := by omega
  by_cases e : cap = i
  · refine ⟨a, fun W => ?_, fun W H => ⟨by rw [List.length_drop, H.n], by omega, by have := H.m; omega, fun x hx => H.ok x (List.mem_of_mem_drop hx), .inl (by omega)⟩⟩
    subst e
    cases a <;> go_simp
  · cases a with
    | none =>
      have hz : len = 0 := by
        rcases h.at_ with h2 | ⟨b, off, e2, _⟩
        · exact h2
        · cases e2
      refine ⟨none, fun W => ?_, fun W H => ⟨by rw [List.length_drop, H.n], by omega, by have := H.m; omega, fun x hx => H.ok x (List.mem_of_mem_drop hx), .inl (by omega)⟩⟩
      obtain rfl : i = 0 := by omega
      go_simp
    | some x =>
      refine ⟨some (x.add (i * 9)), fun W => ?_, fun W H => ⟨by rw [List.length_drop, H.n], by omega, by have := H.m; omega, fun y hy => H.ok y (List.mem_of_mem_drop hy), ?_⟩⟩
      · go_simp
      · rcases H.at_ with h4 | ⟨b, off, e2, hl, hx⟩
        · exact .inl (by omega)
        · obtain rfl : x = ⟨b, off, none⟩ := Option.some.inj e2
          refine .inr ⟨b, off + i * 9, by rw [add_at], hl, fun j y hj => ?_⟩
          rw [List.getElem?_drop] at hj
          obtain ⟨va, vc, g1, g2⟩ := hx (i + j) y hj
          exact ⟨va, vc, by rw [show off + i * 9 + j * 9 = off + (i + j) * 9 by omega]; exact g1, g2⟩
theorem Cu.back {xs : List Cv} (h : Cu w a len cap xs) {i : Nat} (hi : i ≤ len) : ∃ a', (∀ W : World, (Instr.sliceAt 22 (.slice a len cap) (some (.int .i64 (i : Int))) none none).run Try.prog W = .ok (.slice a' (len - i) (cap - i)) W) ∧ ∀ W : World, Cu W a len cap xs → Cu W a' (len - i) (cap - i) (xs.drop i) := by
  have hc := h.c
  have h1 : (i : Int) ≤ (len : Int) := by omega
  have h0 : ¬ (i : Int) < 0 := by omega
  by_cases e : cap = i
  · refine ⟨a, fun W => ?_, fun W H => ⟨by rw [List.length_drop, H.n], by omega, by have := H.m; omega, .inl (by omega)⟩⟩
    subst e
    cases a <;> go_simp
  · cases a with
    | none =>
      have hz : len = 0 := by
        rcases h.at_ with h2 | ⟨b, off, e2, _⟩
        · exact h2
        · cases e2
      refine ⟨none, fun W => ?_, fun W H => ⟨by rw [List.length_drop, H.n], by omega, by have := H.m; omega, .inl (by omega)⟩⟩
      obtain rfl : i = 0 := by omega
      go_simp
    | some x =>
      refine ⟨some (x.add (i * 10)), fun W => ?_, fun W H => ⟨by rw [List.length_drop, H.n], by omega, by have := H.m; omega, ?_⟩⟩
      · go_simp
      · rcases H.at_ with h4 | ⟨b, off, e2, hl, hx⟩
        · exact .inl (by omega)
        · obtain rfl : x = ⟨b, off, none⟩ := Option.some.inj e2
          refine .inr ⟨b, off + i * 10, by rw [add_at], hl, fun j y hj => ?_⟩
          rw [List.getElem?_drop] at hj
          obtain ⟨va, vc, g1, g2⟩ := hx (i + j) y hj
          exact ⟨va, vc, by rw [show off + i * 10 + j * 10 = off + (i + j) * 10 by omega]; exact g1, g2⟩
end
end Go.Proofs.Ytaafkefgpgoepaa
