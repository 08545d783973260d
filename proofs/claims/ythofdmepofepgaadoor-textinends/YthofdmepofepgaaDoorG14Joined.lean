/- A row of words in memory. Conditions: none. Functions of the draft of package textin: isQuiet, exp, key, and how numbers are kept. Conditions: the listed variables hold what the program's text lays; words of at most 140737488351232 bytes. -/
import Derived.Test.YthofdmepofepgaaDoorG03Joined
import Derived.Test.YthofdmepofepgaaDoorG13Joined
import Derived.Test.YthofdmepofepgaaDoorByteKit
namespace Go.Proofs.YthofdmepofepgaaDoor
set_option linter.unusedVariables false
open Go.RowKit

/-- A row of words, in a block of which Q tells. -/
structure Wu (Q : Nat → Prop) (w : World) (a : Option Addr) (len cap : Nat) (ws : List (List UInt8)) : Prop where
  n : ws.length = len
  c : len ≤ cap
  m : cap ≤ maxLen
  nil_ : a = none → cap = 0
  at_ : len = 0 ∨ ∃ b off, a = some ⟨b, off, none⟩ ∧ Q b ∧ b < w.heap.size ∧ ∀ i, ∀ h : i < ws.length, w.cell? ⟨b, off + i, none⟩ = some (.string (mkB ws[i]))
section
variable {Q : Nat → Prop} {w w' : World} {a : Option Addr} {len cap : Nat} {ws : List (List UInt8)}
theorem Wu.on (h : Wu Q w a len cap ws) (hq : ∀ b, Q b → b < w.heap.size → w'.heap[b]? = w.heap[b]?) : Wu Q w' a len cap ws := by
  refine ⟨h.n, h.c, h.m, h.nil_, ?_⟩
  rcases h.at_ with h0 | ⟨b, off, e, hb, hl, hc⟩
  · exact .inl h0
  · have hs := hq b hb hl
    refine .inr ⟨b, off, e, hb, ?_, fun i hi => (World.cell?_of_block hs).trans (hc i hi)⟩
    rcases Nat.lt_or_ge b w'.heap.size with h' | h'
    · exact h'
    · rw [Array.getElem?_eq_none h'] at hs
      rw [Array.getElem?_eq_getElem hl] at hs
      cases hs
theorem Wu.get (h : Wu Q w a len cap ws) {i : Nat} (hi : i < len) : ∃ b off, a = some ⟨b, off, none⟩ ∧ w.cell? ⟨b, off + i, none⟩ = some (.string (mkB (ws[i]'(by rw [h.n]; exact hi)))) := by
  rcases h.at_ with h0 | ⟨b, off, e, hb, hl, hc⟩
  · omega
  · exact ⟨b, off, e, hc i _⟩
/-- 'ws[:j]' -/
theorem Wu.front (h : Wu Q w a len cap ws) {j : Nat} (hj : j ≤ len) : Wu Q w a j cap (ws.take j) := by
  have hc := h.c
  refine ⟨by rw [List.length_take, h.n]; omega, by omega, h.m, h.nil_, ?_⟩
  rcases h.at_ with h0 | ⟨b, off, e, hb, hl, hx⟩
  · exact .inl (by omega)
  · refine .inr ⟨b, off, e, hb, hl, fun i hi => ?_⟩
    rw [List.length_take] at hi
    rw [hx i (by omega), List.getElem_take]
/-- 'ws[1:]' -/
theorem Wu.tail (h : Wu Q w a len cap ws) (h1 : 1 ≤ len) : ∃ a', (∀ W : World, (Instr.sliceAt 26 (.slice a len cap) (some (.int .i64 1)) none none).run Tryd.prog W = .ok (.slice a' (len - 1) (cap - 1)) W) ∧ Wu Q w a' (len - 1) (cap - 1) ws.tail := by
  have hc := h.c
  have hm := h.m
  rcases h.at_ with h0 | ⟨b, off, e, hb, hl, hx⟩
  · omega
  · subst e
    have h2 : (1 : Int) ≤ (len : Int) := by omega
    by_cases e : cap = 1
    · refine ⟨some ⟨b, off, none⟩, fun W => ?_, by rw [List.length_tail, h.n], by omega, by omega, fun e => by (cases e), .inl (by omega)⟩
      subst e
      go_simp
    · refine ⟨some (Addr.add ⟨b, off, none⟩ 1), fun W => ?_, by rw [List.length_tail, h.n], by omega, by omega, fun e => by (cases e), ?_⟩
      · go_simp
      · refine .inr ⟨b, off + 1, by rw [add_at], hb, hl, fun i hi => ?_⟩
        rw [List.length_tail] at hi
        rw [Nat.add_assoc, Nat.add_comm 1 i, hx (i + 1) (by omega)]
        simp
end
theorem own_base {n0 n1 n : Nat} {e : TypeId} {w : World} {v : Value} {xs : List Value} (h : w.ownsRow n0 e 1 v n xs) (hn : n1 ≤ n0) : w.ownsRow n1 e 1 v n xs := ⟨h.1, h.2.imp id fun ⟨g, cp, cur, a1, a2, a3⟩ => ⟨g, cp, cur, a1, Nat.le_trans hn a2, a3⟩⟩
theorem size_mk (l : List UInt8) : (mkB l).size = l.length := by simp [mkB, ByteArray.size]
end Go.Proofs.YthofdmepofepgaaDoor

namespace Go.Proofs.YthofdmepofepgaaDoor
set_option linter.unusedVariables false
open Go.RowKit

section
variable {Q : Nat → Prop} {wB w w' w1 : World} {n0 D : Nat} {d : Dv} {a va : Option Addr} {len cap vc : Nat} {ws : List (List UInt8)} {t : TypeId}
theorem quiet_no {op : Int} (h : op = 0 ∨ op = 1 ∨ op = 15 ∨ op = 16) (ws : List (List UInt8)) (many : Nat) : quietN op ws many = false := by
  unfold quietN mayQ
  simp [h]
theorem quiet_may {op : Int} (h : ¬ (op = 0 ∨ op = 1 ∨ op = 15 ∨ op = 16)) (ws : List (List UInt8)) (many : Nat) : quietN op ws many = (decide (ws.length = many + 1) && decide (ws[many]? = some t_noreply)) := by
  unfold quietN mayQ
  simp [h]
set_option maxRecDepth 100000 in
set_option maxHeartbeats 2000000 in
theorem isQuiet_any {c : Nat} {ka : Option Addr} (hD : w.heap[D]? = some (.cells (drC d ka c va vc) t (0, 0))) (hW : Wu Q w a len cap ws) (many : Nat) (hm : many ≤ 1000000) : Calls Tryd.prog 34 #[.pointer (some ⟨D, 0, none⟩), .slice a len cap, .int .i64 (many : Int)] w fun e w' => e = .returned (.bool (quietN d.op ws many)) ∧ w = w' := by
  have c1 := dr_op hD
  clear hD
  by_cases hop : d.op = 0 ∨ d.op = 1 ∨ d.op = 15 ∨ d.op = 16
  · rw [quiet_no hop]
    rcases hop with h | h | h | h
    all_goals
      rw [h] at c1
      clear h
      go_enter Tryd.func34, Tryd.ntmps34
      go_wp2
      go_ret
      exact ⟨rfl, rfl⟩
  · rw [quiet_may hop]
    obtain ⟨op, ho⟩ : ∃ op, d.op = op := ⟨_, rfl⟩
    rw [ho] at c1 hop
    have o0 : ¬ op = 0 := fun h => hop (.inl h)
    have o1 : ¬ op = 1 := fun h => hop (.inr (.inl h))
    have o2 : ¬ op = 15 := fun h => hop (.inr (.inr (.inl h)))
    have o3 : ¬ op = 16 := fun h => hop (.inr (.inr (.inr h)))
    clear hop ho
    have e1 : wrap64 ((many : Int) + 1) = (many : Int) + 1 := by unfold wrap64; omega
    by_cases hn : len = many + 1
    · obtain ⟨b, off, rfl, hc⟩ := hW.get (i := many) (by omega)
      have hlen := hW.n
      have hlt : many < ws.length := by omega
      rw [hlen, List.getElem?_eq_getElem hlt]
      generalize ws[many] = x at *
      have hli : (len : Int) = (many : Int) + 1 := by omega
      simp only [mkB] at hc
      have e2 : (decide (len = many + 1) && decide (some x = some t_noreply)) = (x == [110, 111, 114, 101, 112, 108, 121]) := by
        rw [decide_eq_true hn, Bool.true_and]
        simp only [Option.some.injEq, t_noreply]
        by_cases hx : x = [110, 111, 114, 101, 112, 108, 121]
        · simp [hx]
        · rw [decide_eq_false hx]; symm; simpa using hx
      rw [e2]
      subst hn
      clear e2 hlen hlt hW hli hm
      go_enter Tryd.func34, Tryd.ntmps34
      go_wp2
      go_ret
      exact ⟨rfl, rfl⟩
    · rw [hW.n, decide_eq_false hn, Bool.false_and]
      have hni : ¬ (len : Int) = (many : Int) + 1 := by omega
      clear hn hm hW
      go_enter Tryd.func34, Tryd.ntmps34
      go_wp2
      go_ret
      exact ⟨rfl, rfl⟩
end
end Go.Proofs.YthofdmepofepgaaDoor
