/- Slices of bytes that came in, and their being appended to a row of one's own. Conditions: none. -/
import Derived.Test.YtggaifkjmlhmlaaGrow
import Derived.Maps.AppendAt
import Derived.Laws.OwnMore
namespace Go.Proofs.Ytggaifkjmlhmlaa
open Go.RowKit

def IsRow (k : IntKind) (w : World) (a : Option Addr) (len cap : Nat) (zs : List Int) : Prop :=
  (a = none ∧ len = 0 ∧ cap = 0 ∧ zs = []) ∨
  ∃ x, a = some x ∧ len ≤ cap ∧ cap ≤ maxLen ∧ zs.length = cap ∧ (∀ i, i < zs.length → w.cell? (x.add i) = some (.int k (zs.getD i 0))) ∧ ∀ n ∈ zs, (Lit.int k n).wf = true
theorem IsRow.below {k : IntKind} {w w' : World} {a : Option Addr} {len cap : Nat} {zs : List Int} (h : IsRow k w a len cap zs) (hb : Below w.heap.size w w') : IsRow k w' a len cap zs := by
  rcases h with h | ⟨x, h1, h2, h3, h4, h5, h6⟩
  · exact .inl h
  · exact .inr ⟨x, h1, h2, h3, h4, fun i hi => (hb.cell (p := x.add i) (World.block_lt_of_cell? w _ (h5 i hi))).trans (h5 i hi), h6⟩
theorem IsRow.len_ {k : IntKind} {w : World} {a : Option Addr} {len cap : Nat} {zs : List Int} (h : IsRow k w a len cap zs) : (zs.take len).length = len ∧ len ≤ maxLen := by
  rcases h with ⟨_, rfl, _, rfl⟩ | ⟨x, h1, h2, h3, h4, h5, h6⟩
  · exact ⟨rfl, Nat.zero_le _⟩
  · exact ⟨by rw [List.length_take, h4]; omega, by omega⟩
def byV (l : List Int) : List Value := l.map (Value.int .u8)
theorem info_byte : (Try.prog.info? 5).map (fun i => (i.zero, i.size, i.bytes)) = some (some (.int .u8 0), 1, 1) := by kernel_rfl
/-- All of them are appended. -/
theorem run_append_bytes (w : World) (base : Nat) (ty : TypeId) {v : Value} {n : Nat} {xs : List Value} {a : Option Addr} {len cap : Nat} {zs : List Int} (hown : w.ownsRow base 5 1 v n xs) (hr : IsRow .u8 w a len cap zs) (hn : n + len ≤ 100000000) (hb : base ≤ w.heap.size) :
    ∃ v' w', (Builtin.append_ #[22, 22] ty #[v, .slice a len cap]).run Try.prog w = .ok v' w' ∧ w'.ownsRow base 5 1 v' (n + len) (xs ++ byV (zs.take len)) ∧ w.grownBy w' v.ownBlock ∧ (v'.ownBlock = v.ownBlock ∨ v'.ownBlock = some w.heap.size) := by
  obtain ⟨i0, hi, hz0, hz1, hz2⟩ := info_parts info_byte
  rcases hr with ⟨rfl, rfl, rfl, rfl⟩ | ⟨x, rfl, h2, h3, h4, h5, h6⟩
  · refine ⟨v, w, run_append_owned_none w base 22 ty 5 i0 1 Try.underlying22 hi v n xs hown, ?_, gr_refl _ _, .inl rfl⟩
    simpa [byV] using hown
  · have hl : (byV (zs.take len)).length = len * 1 := by unfold byV; rw [List.length_map, List.length_take, h4]; omega
    have hnews : ∀ (j : Nat) (u : Value), (byV (zs.take len))[j]? = some u → w.cell? (x.add j) = some u := by
      intro j u hu
      unfold byV at hu
      have hj : j < len := by
        have := (List.getElem?_eq_some_iff.1 hu).1
        rw [List.length_map, List.length_take] at this
        omega
      have hjz : j < zs.length := by omega
      rw [List.getElem?_map, List.getElem?_take, if_pos hj, List.getElem?_eq_getElem hjz] at hu
      rw [h5 j hjz, List.getD, List.getElem?_eq_getElem hjz]
      exact hu
    obtain ⟨v', w', q1, q2, q3, _, q5⟩ := run_append_own_at (P := Try.prog) w base 22 ty 5 i0 (.int .u8 0) 1 1 Try.underlying22 hi hz0 hz1 hz2 rfl (by decide) v n xs hown x len cap (byV (zs.take len)) hl hnews (fun u hu => by
      unfold byV at hu
      obtain ⟨z, _, rfl⟩ := List.mem_map.1 hu
      rfl) (by unfold maxLen; omega) (by omega) hb
    exact ⟨v', w', q1, q2, q3, q5⟩
theorem wpList_append_bytes {w : World} {ops : Array Oper} {rest : List Oper} {o : Oper} {a : Act} {Q : Exit → Act → World → Prop} (hgd : o.guard = none) (s x : Operand) (ho : o.op = .call { callee := .builtin .append, args := #[s, x], argTypes := #[22, 22] })
    (base : Nat) (v : Value) (n : Nat) (xs : List Value) (hs : a.eval s = v) (hown : w.ownsRow base 5 1 v n xs) (b : Option Addr) (len cap : Nat) (zs : List Int) (hx : a.eval x = .slice b len cap) (hr : IsRow .u8 w b len cap zs) (hn : n + len ≤ 100000000) (hb : base ≤ w.heap.size)
    (h : ∀ v' w', w'.ownsRow base 5 1 v' (n + len) (xs ++ byV (zs.take len)) → w.grownBy w' v.ownBlock → (v'.ownBlock = v.ownBlock ∨ v'.ownBlock = some w.heap.size) → wpList Try.prog ops Q rest (a.put o.dst v') w') :
    wpList Try.prog ops Q (o :: rest) a w := by
  refine wpList_plain hgd fun K hK => ?_
  obtain ⟨v', w', hr, h2, h3, h5⟩ := run_append_bytes w base o.type hown hr hn hb
  unfold Oper.wp execOp
  simp only [ho, resolve, invoke, builtin, Sem.run_bind, Sem.run_pure, Result.andThen_ok, List.map_toArray, List.map_cons, List.map_nil, hs, hx, hr]
  exact hK _ _ (h v' w' h2 h3 h5)
end Go.Proofs.Ytggaifkjmlhmlaa
