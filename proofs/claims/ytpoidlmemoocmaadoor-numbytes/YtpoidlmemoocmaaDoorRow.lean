/- A slice of bytes that came in, as a walk is told of it; and Get of package num on such a slice: the number of its last eight bytes. Conditions: the slice has at most 140737488351232 bytes. -/
import Derived.Test.YtpoidlmemoocmaaDoorOwn
namespace Go.Proofs.YtpoidlmemoocmaaDoor
open Go.RowKit

/-- The slice is nil; or it leads to a row of 'cap' cells, the numbers 'zs' (the first 'len' are its elements), each fitting its kind. -/
def IsRow (k : IntKind) (w : World) (a : Option Addr) (len cap : Nat) (zs : List Int) : Prop :=
  (a = none ∧ len = 0 ∧ cap = 0 ∧ zs = []) ∨
  ∃ x, a = some x ∧ len ≤ cap ∧ cap ≤ maxLen ∧ zs.length = cap ∧ (∀ i, i < zs.length → w.cell? (x.add i) = some (.int k (zs.getD i 0))) ∧ ∀ n ∈ zs, (Lit.int k n).wf = true

/-- A slice with at least one byte: where it lies, and its elements. -/
structure Row1 (w : World) (a : Option Addr) (len cap : Nat) (es : List Int) (b off : Nat) : Prop where
  at_ : a = some ⟨b, off, none⟩
  one : 1 ≤ len
  cap_ : len ≤ cap
  len_ : es.length = len
  bd : ∀ z ∈ es, 0 ≤ z ∧ z ≤ 255
  cell : ∀ i, i < len → w.cell? ⟨b, off + i, none⟩ = some (.int .u8 (es.getD i 0))
  old : b < w.heap.size

theorem add_at (b off i : Nat) : (⟨b, off, none⟩ : Addr).add i = ⟨b, off + i, none⟩ := Lib.add_plain b off i
theorem row_cases {w : World} {a : Option Addr} {len cap : Nat} {zs : List Int} (h : IsRow .u8 w a len cap zs) :
    (len = 0 ∧ (a = none → cap = 0)) ∨ ∃ b off, Row1 w a len cap (zs.take len) b off := by
  rcases h with ⟨rfl, rfl, rfl, rfl⟩ | ⟨x, rfl, hl, hm, hz, hcell, hwz⟩
  · exact .inl ⟨rfl, fun _ => rfl⟩
  · by_cases h0 : len = 0
    · exact .inl ⟨h0, fun e => by cases e⟩
    · obtain ⟨b, off, spot⟩ := x
      have hc := hcell 0 (by omega)
      have hspot : spot = none := by simpa [Addr.add] using World.cell?_spot hc
      subst hspot
      refine .inr ⟨b, off, rfl, by omega, hl, by simp; omega, ?_, ?_, ?_⟩
      · intro z hzm
        have := hwz z (List.mem_of_mem_take hzm)
        have e1 : IntKind.u8.min = 0 := rfl
        have e2 : IntKind.u8.max = 255 := rfl
        simp [Lit.wf, e1, e2] at this
        exact this
      · intro i hi
        have := hcell i (by omega)
        rw [add_at] at this
        rw [this]
        simp [List.getD, hi]
      · rw [add_at] at hc
        exact block_lt_of_cell hc

theorem Row1.on {w w' : World} {a : Option Addr} {len cap : Nat} {es : List Int} {b off : Nat} (h : Row1 w a len cap es b off) (hb : Below w.heap.size w w') : Row1 w' a len cap es b off :=
  ⟨h.at_, h.one, h.cap_, h.len_, h.bd, fun i hi => (hb.cell (p := ⟨b, off + i, none⟩) h.old).trans (h.cell i hi), Nat.lt_of_lt_of_le h.old hb.size⟩

theorem get_row {w : World} {a : Option Addr} {len cap : Nat} {es : List Int} {b off : Nat} (h : Row1 w a len cap es b off) (hl : len ≤ 140737488351232) :
    Calls Tryd.prog 20 #[.slice a len cap] w fun e w' => e = .returned (.int .u64 (num8 (es.drop (len - 8)))) ∧ w' = w := by
  rw [h.at_]
  exact get_any b off len cap es h.len_ hl h.cap_ h.bd w h.cell h.one

set_option maxHeartbeats 1000000 in
theorem get_empty (a : Option Addr) (cap : Nat) (ha : a = none → cap = 0) (w : World) :
    Calls Tryd.prog 20 #[.slice a 0 cap] w fun e w' => e = .returned (.int .u64 0) ∧ w' = w := by
  have hmax : max (0 : Int) (-8) = 0 := by decide
  cases a with
  | none =>
    have hc := ha rfl
    subst hc
    go_enter Tryd.func20, Tryd.ntmps20
    go_wp2
    refine wp_loop_rounds 1 ?_
    rw [rounds_succ]
    go_wp2
    go_ret
    exact ⟨rfl, rfl⟩
  | some x =>
    clear ha
    go_enter Tryd.func20, Tryd.ntmps20
    go_wp2
    all_goals
      refine wp_loop_rounds 1 ?_
      rw [rounds_succ]
      go_wp2
      go_ret
      exact ⟨rfl, rfl⟩
end Go.Proofs.YtpoidlmemoocmaaDoor
