/- Parts of bytes with no room behind, and a block of which one cell was set. Conditions: none. -/
import Derived.Test.YtaafkefgpgoepaaHeadB
import Derived.Test.YtaafkefgpgoepaaSetRow
import Derived.Test.YtaafkefgpgoepaaG04Joined
import Derived.Deep.Cut
import Derived.Deep.OwnRows
namespace Go.Proofs.Ytaafkefgpgoepaa
set_option linter.unusedVariables false
open Go.RowKit Go.Shelf

/-- A part of bytes, with no room behind. -/
theorem Bu.part3 {w : World} {g off L c : Nat} {l : List UInt8} (h : Bu w (some ⟨g, off, none⟩) L c l) (i m : Nat) (hi : i + m ≤ L) : Bu w (some ⟨g, off + i, none⟩) m m ((l.drop i).take m) := by
  have hc := h.c
  have := (h.part i m hi).front (j := m) (c := m) (Nat.le_refl _) (Nat.le_refl _) (by omega)
  rwa [List.take_take, Nat.min_self] at this
/-- 'b[i:j:j]' of bytes, as an equation of every world. -/
theorem Bu.sub3 {w : World} {g off len cap : Nat} {l : List UInt8} (h : Bu w (some ⟨g, off, none⟩) len cap l) {i m : Nat} (hm : i + m ≤ len) (zi zj : Int) (hi : zi = (i : Int)) (hj : zj = (i : Int) + (m : Int)) : ∃ o', (∀ W : World, (Instr.sliceAt 32 (.slice (some ⟨g, off, none⟩) len cap) (some (.int .i64 zi)) (some (.int .i64 zj)) (some (.int .i64 zj))).run Try.prog W = .ok (.slice (some ⟨g, o', none⟩) m m) W) ∧
    ∀ W : World, Bu W (some ⟨g, off, none⟩) len cap l → Bu W (some ⟨g, o', none⟩) m m ((l.drop i).take m) := by
  have hc := h.c
  obtain ⟨j, hjj⟩ : ∃ j, j = i + m := ⟨_, rfl⟩
  obtain rfl : zj = (j : Int) := by omega
  subst hi
  have h1 : (j : Int) ≤ (cap : Int) := by omega
  have h2 : (i : Int) ≤ (j : Int) := by omega
  have h4 : j - i = m := by omega
  by_cases e : j = i
  · obtain rfl : m = 0 := by omega
    refine ⟨off, fun W => ?_, fun W H => ⟨by simp, .inl ⟨rfl, by rw [List.take_zero]; rfl, fun e => by cases e⟩, by omega, by have := H.m; omega⟩⟩
    subst e
    clear hj hjj
    go_simp
  · refine ⟨off + i, fun W => ?_, fun W H => ?_⟩
    · clear hj hjj
      go_simp
    · have := (H.part i m hm).front (j := m) (c := m) (Nat.le_refl _) (Nat.le_refl _) (by omega)
      rwa [List.take_take, Nat.min_self] at this
/-- 'b[:m:m]' of bytes. -/
theorem Bu.pre3 {w : World} {g off len cap : Nat} {l : List UInt8} (h : Bu w (some ⟨g, off, none⟩) len cap l) {m : Nat} (hm : m ≤ len) (zj : Int) (hj : zj = (m : Int)) : (∀ W : World, (Instr.sliceAt 32 (.slice (some ⟨g, off, none⟩) len cap) none (some (.int .i64 zj)) (some (.int .i64 zj))).run Try.prog W = .ok (.slice (some ⟨g, off, none⟩) m m) W) ∧
    ∀ W : World, Bu W (some ⟨g, off, none⟩) len cap l → Bu W (some ⟨g, off, none⟩) m m (l.take m) := by
  have hc := h.c
  subst hj
  have h1 : (m : Int) ≤ (cap : Int) := by omega
  refine ⟨fun W => ?_, fun W H => H.front hm (Nat.le_refl _) (by omega)⟩
  go_simp
theorem run_sub3 {P : Program} {o : Oper} {a : Act} {w : World} {v : Value} (ty : TypeId) (x lo hi mx : Operand) (ho : o.op = .slice ty x (some lo) (some hi) (some mx)) (h : (Instr.sliceAt ty (a.eval x) (some (a.eval lo)) (some (a.eval hi)) (some (a.eval mx))).run P w = .ok v w) : (execOp a.eval o).run P w = .ok (.value v) w := by
  unfold execOp
  simp only [ho, Option.map_some, Sem.run_bind, Sem.run_pure, Result.andThen_ok, h]
theorem run_pre3 {P : Program} {o : Oper} {a : Act} {w : World} {v : Value} (ty : TypeId) (x hi mx : Operand) (ho : o.op = .slice ty x none (some hi) (some mx)) (h : (Instr.sliceAt ty (a.eval x) none (some (a.eval hi)) (some (a.eval mx))).run P w = .ok v w) : (execOp a.eval o).run P w = .ok (.value v) w := by
  unfold execOp
  simp only [ho, Option.map_some, Option.map_none, Sem.run_bind, Sem.run_pure, Result.andThen_ok, h]
theorem setAtB {w : World} {K : Nat} {cs : Array Value} {t : TypeId} (j : Nat) (v : Value) (h : w.heap[K]? = some (.cells cs t (0, 0))) : (w.setCell ⟨K, j, none⟩ v).heap[K]? = some (.cells (cs.setIfInBounds j v) t (0, 0)) := heap_setCell_same w K j cs t v h
theorem setGrB (w : World) (K j : Nat) (v : Value) : w.grownBy (w.setCell ⟨K, j, none⟩ v) (some K) :=
  ⟨rfl, rfl, rfl, by rw [World.size_setCell]; exact Nat.le_refl _, fun k hk hn => heap_setCell_other _ _ _ _ (fun e => hn (by rw [show k = K from e]))⟩
theorem Bu.far {w w' : World} {g o m cap K : Nat} {l : List UInt8} (h : Bu w (some ⟨g, o, none⟩) m cap l) (hg : w.grownBy w' (some K)) (hk : g ≠ K) : Bu w' (some ⟨g, o, none⟩) m cap l := by
  refine ⟨h.n, ?_, h.c, h.m⟩
  rcases h.b with ⟨h1, h2, h3⟩ | ⟨b, off, r⟩
  · exact .inl ⟨h1, h2, h3⟩
  · refine .inr ⟨b, off, ?_⟩
    have e : g = b := by have := r.at_; cases this; rfl
    have hb : w'.heap[b]? = w.heap[b]? := hg.block b r.old (fun e' => hk (by rw [e]; exact (Option.some.inj e').symm ▸ rfl))
    have hcell : ∀ i, i < m → w'.cell? ⟨b, off + i, none⟩ = some (.int .u8 ((ints l).getD i 0)) := fun i hi => by
      rw [World.cell?_of_block (a := ⟨b, off + i, none⟩) hb]
      exact r.cell i hi
    obtain ⟨q1, q2, q3, q4, q5, q6, q7⟩ := r
    exact ⟨q1, q2, q3, q4, q5, hcell, Nat.lt_of_lt_of_le q7 hg.size⟩
theorem gr_self {a b c : World} {K : Nat} (h : a.grownBy b (some K)) (k : b.grownBy c (some K)) : a.grownBy c (some K) :=
  ⟨k.os.trans h.os, k.tape.trans h.tape, k.output.trans h.output, Nat.le_trans h.size k.size, fun i hi hn => (k.block i (Nat.lt_of_lt_of_le hi h.size) hn).trans (h.block i hi hn)⟩
end Go.Proofs.Ytaafkefgpgoepaa
