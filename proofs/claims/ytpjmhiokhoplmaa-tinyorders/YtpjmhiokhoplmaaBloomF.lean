/- What the filter is in memory, and what New, Copy, Clear, Ones and a place's bit come to in package bloom. Conditions: none. -/
import Derived.Test.YtpjmhiokhoplmaaPop
import Derived.Test.YtpjmhiokhoplmaaBloomCon
import Derived.Laws.Tables
import Derived.Laws.Rows
import Derived.Laws.CopyRow
namespace Go.Proofs.Ytpjmhiokhoplmaa
open Go.RowKit

/-- The cells of a filter: its seed, and its eight words. -/
def cellsF (sd : Nat) (ws : List Nat) : Array Value := (.int .u64 sd :: ws.map fun x => .int .u64 (x : Nat)).toArray
/-- The filter at block b has this seed and these places set. -/
def Fil0 (w : World) (b sd : Nat) (S : List Nat) : Prop := ∃ ws : List Nat, Bits8 ws S ∧ Good S ∧ sd < 18446744073709551616 ∧ w.heap[b]? = some (.cells (cellsF sd ws) 58 (0, 0))

theorem eight {ws : List Nat} (h : ws.length = 8) : ∃ a b c d e f g k, ws = [a, b, c, d, e, f, g, k] := by
  match ws, h with
  | [a, b, c, d, e, f, g, k], _ => exact ⟨a, b, c, d, e, f, g, k, rfl⟩

theorem i64_and (m : Nat) (M : Int) (hM : M = (2 ^ m : Nat)) (hm : m < 63) (A : Int) (h0 : 0 ≤ A) (hs : A < 9223372036854775808) : bits .and .i64 A (M - 1) = A % M := by
  obtain ⟨a, rfl⟩ := Int.eq_ofNat_of_zero_le h0
  have hp : 2 ^ m < 2 ^ 63 := Nat.pow_lt_pow_right (by decide) hm
  have hp0 : 0 < 2 ^ m := Nat.two_pow_pos m
  have hp63 : (2 : Nat) ^ 63 = 9223372036854775808 := by decide
  have e : M - 1 = ((2 ^ m - 1 : Nat) : Int) := by omega
  have h1 : (BitVec.ofInt 64 (a : Int)).toNat = a := by
    rw [BitVec.ofInt_natCast, BitVec.toNat_ofNat]; exact Nat.mod_eq_of_lt (by omega)
  have h2 : (BitVec.ofInt 64 ((2 ^ m - 1 : Nat) : Int)).toNat = 2 ^ m - 1 := by
    rw [BitVec.ofInt_natCast, BitVec.toNat_ofNat]; exact Nat.mod_eq_of_lt (by omega)
  rw [e]
  show IntKind.i64.wrap ((BitVec.ofInt 64 (a : Int) &&& BitVec.ofInt 64 ((2 ^ m - 1 : Nat) : Int)).toNat : Int) = _
  have h3 := Nat.mod_lt a hp0
  rw [BitVec.toNat_and, h1, h2, Nat.and_two_pow_sub_one_eq_mod, IntKind.wrap_i64, hM]
  omega
set_option maxHeartbeats 1000000 in
theorem new_any (sd : Nat) (w : World) : Calls Try.prog 19 #[.int .u64 sd] w fun e w' => e = .returned (.pointer (some ⟨w.heap.size, 0, none⟩)) ∧ w' = w.alloc (.cells (cellsF sd [0, 0, 0, 0, 0, 0, 0, 0]) 58) := by
  go_enter Try.func19, Try.ntmps19
  go_wp2
  go_ret
  exact ⟨rfl, rfl⟩
set_option maxHeartbeats 1000000 in
theorem bit_any (p : Nat) (h : p < 512) (w : World) : Calls Try.prog 34 #[.int .i64 p] w fun e w' => e = .returned (.int .u64 ((2 ^ (p % 64) : Nat) : Int)) ∧ w = w' := by
  have e : IntKind.u64.wrap ((2 : Int) ^ (p % 64)) = ((2 ^ (p % 64) : Nat) : Int) := by
    have h1 := two_pow_lt (show p % 64 < 64 by omega)
    have h2 : (2 : Int) ^ (p % 64) = ((2 ^ (p % 64) : Nat) : Int) := by simp
    obtain ⟨m, hm⟩ : ∃ m, m = 2 ^ (p % 64) := ⟨_, rfl⟩
    rw [IntKind.wrap_u64, h2, ← hm]
    rw [← hm] at h1
    omega
  have E := hide e
  clear e
  go_enter Try.func34, Try.ntmps34
  go_wp2
  go_ret
  refine ⟨?_, rfl⟩
  rw [← E.out]
  rfl
theorem pairs_le (s c k x : Nat) : pairs s c k x ≤ 2 * mask c k := by
  unfold pairs
  have h1 : x / 2 ^ s &&& mask c k ≤ mask c k := Nat.and_le_right
  have h2 : x &&& mask c k ≤ mask c k := Nat.and_le_right
  omega
theorem halves_le (k x : Nat) : halves k x ≤ mask 15 k := Nat.and_le_right
theorem walk_pairs (s c x : Nat) (M D : Nat) (hM : M = mask c 8) (hD : D = 2 ^ s) (h : x < 18446744073709551616) (h2 : 2 * M < 18446744073709551616) :
    IntKind.u64.wrap (bits .and .u64 ((x : Int) / (D : Int)) (M : Int) + bits .and .u64 (x : Int) (M : Int)) = ((pairs s c 8 x : Nat) : Int) := by
  have e1 : (x : Int) / (D : Int) = ((x / D : Nat) : Int) := by simp
  have l1 : x / D < 18446744073709551616 := Nat.lt_of_le_of_lt (Nat.div_le_self _ _) h
  rw [e1, u64_and_nat _ _ l1 (by omega), u64_and_nat _ _ h (by omega), IntKind.wrap_u64]
  have h3 := pairs_le s c 8 x
  unfold pairs at h3 ⊢
  rw [← hM] at h3
  rw [hD] at *
  rw [← hM]
  omega
theorem sum_le (y D M : Nat) (h : y ≤ M) : y + y / D ≤ 2 * M := by
  have := Nat.div_le_self y D
  omega
theorem walk_sum (y D : Nat) (h : y + y / D < 18446744073709551616) : IntKind.u64.wrap ((y : Int) + (y : Int) / (D : Int)) = ((y + y / D : Nat) : Int) := by
  have e : (y : Int) / (D : Int) = ((y / D : Nat) : Int) := by simp
  rw [IntKind.wrap_u64, e]
  generalize y / D = z at h ⊢
  omega
theorem walk_halves (y : Nat) (m3 : mask 15 8 = 1085102592571150095) (h : y ≤ 2 * 3689348814741910323) : bits .and .u64 (IntKind.u64.wrap ((y : Int) / 16 + (y : Int))) 1085102592571150095 = ((halves 8 y : Nat) : Int) := by
  have f : IntKind.u64.wrap ((y : Int) / 16 + (y : Int)) = ((y / 16 + y : Nat) : Int) := by
    clear m3
    rw [IntKind.wrap_u64]
    omega
  rw [f]
  have := u64_and_nat (y / 16 + y) 1085102592571150095 (by clear f m3; omega) (by decide)
  unfold halves
  rw [m3]
  exact this
theorem walk_last (y p : Nat) (h : y < 9223372036854775808) (hp : y % 128 = p) : wrap64 (y : Int) = (y : Int) ∧ bits .and .i64 (y : Int) 127 = (p : Int) := by
  refine ⟨by unfold wrap64; omega, ?_⟩
  have := i64_and 7 128 rfl (by decide) (y : Int) (by omega) (by omega)
  rw [show (128 : Int) - 1 = 127 from rfl] at this
  rw [this, ← hp]
  omega
set_option maxHeartbeats 1000000 in
theorem copy_any (b sd x0 x1 x2 x3 x4 x5 x6 x7 : Nat) (w : World) (hw : w.heap[b]? = some (.cells (cellsF sd [x0, x1, x2, x3, x4, x5, x6, x7]) 58 (0, 0))) : Calls Try.prog 22 #[.pointer (some ⟨b, 0, none⟩)] w fun e w' => e = .returned (.pointer (some ⟨w.heap.size, 0, none⟩)) ∧ w' = w.alloc (.cells (cellsF sd [x0, x1, x2, x3, x4, x5, x6, x7]) 58) := by
  have c0 : w.cell? ⟨b, 0, none⟩ = some (.int .u64 sd) := by rw [cell_of_row w b 0 _ _ _ hw]; rfl
  have c1 : w.cell? ⟨b, 1, none⟩ = some (.int .u64 x0) := by rw [cell_of_row w b 1 _ _ _ hw]; rfl
  have c2 : w.cell? ⟨b, 2, none⟩ = some (.int .u64 x1) := by rw [cell_of_row w b 2 _ _ _ hw]; rfl
  have c3 : w.cell? ⟨b, 3, none⟩ = some (.int .u64 x2) := by rw [cell_of_row w b 3 _ _ _ hw]; rfl
  have c4 : w.cell? ⟨b, 4, none⟩ = some (.int .u64 x3) := by rw [cell_of_row w b 4 _ _ _ hw]; rfl
  have c5 : w.cell? ⟨b, 5, none⟩ = some (.int .u64 x4) := by rw [cell_of_row w b 5 _ _ _ hw]; rfl
  have c6 : w.cell? ⟨b, 6, none⟩ = some (.int .u64 x5) := by rw [cell_of_row w b 6 _ _ _ hw]; rfl
  have c7 : w.cell? ⟨b, 7, none⟩ = some (.int .u64 x6) := by rw [cell_of_row w b 7 _ _ _ hw]; rfl
  have c8 : w.cell? ⟨b, 8, none⟩ = some (.int .u64 x7) := by rw [cell_of_row w b 8 _ _ _ hw]; rfl
  clear hw
  go_enter Try.func22, Try.ntmps22
  go_wp2
  go_ret
  exact ⟨rfl, rfl⟩
theorem clear_run (b sd x0 x1 x2 x3 x4 x5 x6 x7 : Nat) (w : World) (hw : w.heap[b]? = some (.cells (cellsF sd [x0, x1, x2, x3, x4, x5, x6, x7]) 58 (0, 0))) :
    (Builtin.clear_ #[74] 0 #[.slice (some ⟨b, 1, none⟩) 8 8]).run Try.prog w = .ok (.tuple #[]) (w.setRow b (cellsF sd [0, 0, 0, 0, 0, 0, 0, 0])) := by
  have hst := run_storeCells_at Try.prog b 1 58 [.int .u64 0, .int .u64 0, .int .u64 0, .int .u64 0, .int .u64 0, .int .u64 0, .int .u64 0, .int .u64 0] 0 _ w hw (by simp [cellsF]) (by simp [Value.oneCell'])
  have hst2 : (storeCells ⟨b, 1, none⟩ [.int .u64 0, .int .u64 0, .int .u64 0, .int .u64 0, .int .u64 0, .int .u64 0, .int .u64 0, .int .u64 0] 0).run Try.prog w = .ok () (w.setRow b (cellsF sd [0, 0, 0, 0, 0, 0, 0, 0])) := hst
  have hz : (zeroValue 22).run Try.prog w = .ok (.int .u64 0) w := by kernel_rfl
  have hc : (Builtin.zeroCells (Value.int .u64 0).cells 8).toList = [.int .u64 0, .int .u64 0, .int .u64 0, .int .u64 0, .int .u64 0, .int .u64 0, .int .u64 0, .int .u64 0] := by kernel_rfl
  simp [Builtin.clear_, run_underlying Try.underlying74, hz, hc, hst2, Result.andThen]
theorem grown_setRow (w : World) (b : Nat) (cs : Array Value) : w.grownBy (w.setRow b cs) (some b) :=
  ⟨rfl, rfl, rfl, by simp [World.setRow], fun k _ hk => setRow_other w b k cs (fun e => hk (by rw [e]))⟩
set_option maxHeartbeats 1000000 in
theorem clear_any (b sd x0 x1 x2 x3 x4 x5 x6 x7 : Nat) (w : World) (hw : w.heap[b]? = some (.cells (cellsF sd [x0, x1, x2, x3, x4, x5, x6, x7]) 58 (0, 0))) : Calls Try.prog 26 #[.pointer (some ⟨b, 0, none⟩)] w fun e w' => (∃ v, e = .returned v) ∧ w'.heap[b]? = some (.cells (cellsF sd [0, 0, 0, 0, 0, 0, 0, 0]) 58 (0, 0)) ∧ w.grownBy w' (some b) := by
  have h1 := clear_run b sd x0 x1 x2 x3 x4 x5 x6 x7 w hw
  have h2 := setRow_heap w b _ (cellsF sd [0, 0, 0, 0, 0, 0, 0, 0]) _ _ hw
  have h3 := grown_setRow w b (cellsF sd [0, 0, 0, 0, 0, 0, 0, 0])
  clear hw
  go_enter Try.func26, Try.ntmps26
  go_wp2
  go_end0
  exact ⟨⟨_, rfl⟩, h2, h3⟩
/-- The bits of the first k words. -/
def popTo (ws : List Nat) (k : Nat) : Nat := popAll (ws.take k)
theorem pop_le (n : Nat) : pop n ≤ 64 := by
  have := List.countP_le_length (p := fun k => n.testBit k) (l := List.range 64)
  rwa [List.length_range] at this
theorem popTo_succ (ws : List Nat) (k : Nat) (h : k < ws.length) : popTo ws (k + 1) = popTo ws k + pop (ws.getD k 0) := by
  unfold popTo popAll
  rw [List.take_succ_eq_append_getElem h, List.map_append, List.sum_append]
  simp [List.getD, List.getElem?_eq_getElem h]
theorem popTo_le (ws : List Nat) : ∀ k, k ≤ ws.length → popTo ws k ≤ 64 * k
  | 0, _ => by simp [popTo, popAll]
  | k + 1, h => by
    have h1 := popTo_le ws k (by omega)
    have h2 := pop_le (ws.getD k 0)
    rw [popTo_succ ws k (by omega)]
    omega
theorem index_run (x0 x1 x2 x3 x4 x5 x6 x7 k : Nat) (hk : k < 8) (w : World) : (Instr.index 56 (.agg #[.int .u64 x0, .int .u64 x1, .int .u64 x2, .int .u64 x3, .int .u64 x4, .int .u64 x5, .int .u64 x6, .int .u64 x7]) (.int .i64 (k : Int))).run Try.prog w = .ok (.int .u64 (([x0, x1, x2, x3, x4, x5, x6, x7].getD k 0 : Nat) : Int)) w := by
  have h : k = 0 ∨ k = 1 ∨ k = 2 ∨ k = 3 ∨ k = 4 ∨ k = 5 ∨ k = 6 ∨ k = 7 := by omega
  clear hk
  rcases h with rfl | rfl | rfl | rfl | rfl | rfl | rfl | rfl <;> (show _ = _; kernel_rfl)
theorem fil_lt {w : World} {b sd : Nat} {S : List Nat} (h : Fil0 w b sd S) : b < w.heap.size := by
  obtain ⟨_, _, _, _, h⟩ := h
  exact (Array.getElem?_eq_some_iff.1 h).1
theorem fil_good {w : World} {b sd : Nat} {S : List Nat} (h : Fil0 w b sd S) : Good S ∧ sd < 18446744073709551616 := by
  obtain ⟨_, _, h1, h2, _⟩ := h
  exact ⟨h1, h2⟩
theorem fil_keep {w w' : World} {b sd : Nat} {S : List Nat} (h : Fil0 w b sd S) (e : w'.heap[b]? = w.heap[b]?) : Fil0 w' b sd S := by
  obtain ⟨ws, h1, h2, h3, h4⟩ := h
  exact ⟨ws, h1, h2, h3, e.trans h4⟩
theorem fil_new (sd : Nat) (h : sd < 18446744073709551616) (w : World) : Calls Try.prog 19 #[.int .u64 sd] w fun e w' => ∃ b, e = .returned (.pointer (some ⟨b, 0, none⟩)) ∧ w.heap.size ≤ b ∧ Fil0 w' b sd [] ∧ w.grownBy w' none := by
  refine (new_any sd w).mono ?_
  rintro e w' ⟨rfl, rfl⟩
  exact ⟨_, rfl, Nat.le_refl _, ⟨_, bits_nil, good_nil, h, heap_alloc_new w _⟩, World.grownBy_alloc w _ none⟩
theorem fil_copy {w : World} {b sd : Nat} {S : List Nat} (h : Fil0 w b sd S) : Calls Try.prog 22 #[.pointer (some ⟨b, 0, none⟩)] w fun e w' => ∃ b', e = .returned (.pointer (some ⟨b', 0, none⟩)) ∧ w.heap.size ≤ b' ∧ Fil0 w' b' sd S ∧ w.grownBy w' none := by
  obtain ⟨ws, h1, h2, h3, h4⟩ := h
  obtain ⟨x0, x1, x2, x3, x4, x5, x6, x7, rfl⟩ := eight h1.len
  refine (copy_any b sd x0 x1 x2 x3 x4 x5 x6 x7 w h4).mono ?_
  rintro e w' ⟨rfl, rfl⟩
  exact ⟨_, rfl, Nat.le_refl _, ⟨_, h1, h2, h3, heap_alloc_new w _⟩, World.grownBy_alloc w _ none⟩
theorem fil_clear {w : World} {b sd : Nat} {S : List Nat} (h : Fil0 w b sd S) : Calls Try.prog 26 #[.pointer (some ⟨b, 0, none⟩)] w fun e w' => (∃ v, e = .returned v) ∧ Fil0 w' b sd [] ∧ w.grownBy w' (some b) := by
  obtain ⟨ws, h1, _, h3, h4⟩ := h
  obtain ⟨x0, x1, x2, x3, x4, x5, x6, x7, rfl⟩ := eight h1.len
  refine (clear_any b sd x0 x1 x2 x3 x4 x5 x6 x7 w h4).mono ?_
  rintro e w' ⟨hv, hc, hg⟩
  exact ⟨hv, ⟨_, bits_nil, good_nil, h3, hc⟩, hg⟩
end Go.Proofs.Ytpjmhiokhoplmaa
