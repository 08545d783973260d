/- What the filter is in memory, and what New, Copy, Clear, Ones and a place's bit come to in package bloom. Conditions: none. -/
import Derived.Test.YtidnjcoljfccdaaPop
import Derived.Test.YtidnjcoljfccdaaBloomLib
import Derived.Laws.Tables
import Derived.Laws.Rows
import Derived.Laws.CopyRow
namespace Go.Proofs.Ytidnjcoljfccdaa
open Go.RowKit

/-- The cells of a filter: its seed, and its eight words. -/
def cellsF (sd : Nat) (ws : List Nat) : Array Value := (.int .u64 sd :: ws.map fun x => .int .u64 (x : Nat)).toArray
/-- The filter at block b has this seed and these places set. -/
def Fil0 (w : World) (b sd : Nat) (S : List Nat) : Prop := ∃ ws : List Nat, Bits8 ws S ∧ Good S ∧ sd < 18446744073709551616 ∧ w.heap[b]? = some (.cells (cellsF sd ws) 42 (0, 0))

theorem eight {ws : List Nat} (h : ws.length = 8) : ∃ a b c d e f g k, ws = [a, b, c, d, e, f, g, k] := by
  match ws, h with
  | [a, b, c, d, e, f, g, k], _ => exact ⟨a, b, c, d, e, f, g, k, rfl⟩

theorem i64_and (m : Nat) (M : Int) (hM : M = (2 ^ m : Nat)) (hm : m < 63) (A : Int) (h0 : 0 ≤ A) (hs : A < 9223372036854775808) : bits .and .i64 A (M - 1) = A % M := by
  obtain ⟨a, rfl⟩ := Int.eq_ofNat_of_zero_le h0
  have hp : 2 ^ m < 2 ^ 63 := Nat.pow_lt_pow_right (by decide) hm
  have hp0 : 0 < 2 ^ m := Nat.two_pow_pos m
  have hp63 : (2 : Nat) ^ 63 = 9223372036854775808 := by decide
  have e : M - 1 = ((2 ^ m - 1 : Nat) : Int) := by omega
  have h1 : (BitVec.ofInt 64 (a : Int)).toNat = a := by
    rw [BitVec.ofInt_natCast, BitVec.toNat_ofNat]; exact Nat.mod_eq_of_lt (by omega)
  have h2 : (BitVec.ofInt 64 ((2 ^ m - 1 : Nat) : Int)).toNat = 2 ^ m - 1 := by
    rw [BitVec.ofInt_natCast, BitVec.toNat_ofNat]; exact Nat.mod_eq_of_lt (by omega)
  rw [e]
  show IntKind.i64.wrap ((BitVec.ofInt 64 (a : Int) &&& BitVec.ofInt 64 ((2 ^ m - 1 : Nat) : Int)).toNat : Int) = _
  have h3 := Nat.mod_lt a hp0
  rw [BitVec.toNat_and, h1, h2, Nat.and_two_pow_sub_one_eq_mod, IntKind.wrap_i64, hM]
  omega
set_option maxHeartbeats 1000000 in
theorem new_any (sd : Nat) (w : World) : Calls Try.prog 10 #[.int .u64 sd] w fun e w' => e = .returned (.pointer (some ⟨w.heap.size, 0, none⟩)) ∧ w' = w.alloc (.cells (cellsF sd [0, 0, 0, 0, 0, 0, 0, 0]) 42) := by
  go_enter Try.func10, Try.ntmps10
  go_wp2
  go_ret
  exact ⟨rfl, rfl⟩
set_option maxHeartbeats 1000000 in
theorem bit_any (p : Nat) (h : p < 512) (w : World) : Calls Try.prog 19 #[.int .i64 p] w fun e w' => e = .returned (.int .u64 ((2 ^ (p % 64) : Nat) : Int)) ∧ w = w' := by
  have e : IntKind.u64.wrap ((2 : Int) ^ (p % 64)) = ((2 ^ (p % 64) : Nat) : Int) := by
    have h1 := two_pow_lt (show p % 64 < 64 by omega)
    have h2 : (2 : Int) ^ (p % 64) = ((2 ^ (p % 64) : Nat) : Int) := by simp
    obtain ⟨m, hm⟩ : ∃ m, m = 2 ^ (p % 64) := ⟨_, rfl⟩
    rw [IntKind.wrap_u64, h2, ← hm]
    rw [← hm] at h1
    omega
  have E := hide e
  clear e
  go_enter Try.func19, Try.ntmps19
  go_wp2
  go_ret
  refine ⟨?_, rfl⟩
  rw [← E.out]
  rfl
theorem pairs_le (s c k x : Nat) : pairs s c k x ≤ 2 * mask c k := by
  unfold pairs
  have h1 : x / 2 ^ s &&& mask c k ≤ mask c k := Nat.and_le_right
  have h2 : x &&& mask c k ≤ mask c k := Nat.and_le_right
  omega
theorem halves_le (k x : Nat) : halves k x ≤ mask 15 k := Nat.and_le_right
theorem walk_pairs (s c x : Nat) (M D : Nat) (hM : M = mask c 8) (hD : D = 2 ^ s) (h : x < 18446744073709551616) (h2 : 2 * M < 18446744073709551616) :
    IntKind.u64.wrap (bits .and .u64 ((x : Int) / (D : Int)) (M : Int) + bits .and .u64 (x : Int) (M : Int)) = ((pairs s c 8 x : Nat) : Int) := by
  have e1 : (x : Int) / (D : Int) = ((x / D : Nat) : Int) := by simp
  have l1 : x / D < 18446744073709551616 := Nat.lt_of_le_of_lt (Nat.div_le_self _ _) h
  rw [e1, u64_and_nat _ _ l1 (by omega), u64_and_nat _ _ h (by omega), IntKind.wrap_u64]
  have h3 := pairs_le s c 8 x
  unfold pairs at h3 ⊢
  rw [← hM] at h3
  rw [hD] at *
  rw [← hM]
  omega
theorem sum_le (y D M : Nat) (h : y ≤ M) : y + y / D ≤ 2 * M := by
  have := Nat.div_le_self y D
  omega
theorem walk_sum (y D : Nat) (h : y + y / D < 18446744073709551616) : IntKind.u64.wrap ((y : Int) + (y : Int) / (D : Int)) = ((y + y / D : Nat) : Int) := by
  have e : (y : Int) / (D : Int) = ((y / D : Nat) : Int) := by simp
  rw [IntKind.wrap_u64, e]
  generalize y / D = z at h ⊢
  omega
theorem walk_halves (y : Nat) (m3 : mask 15 8 = 1085102592571150095) (h : y ≤ 2 * 3689348814741910323) : bits .and .u64 (IntKind.u64.wrap ((y : Int) / 16 + (y : Int))) 1085102592571150095 = ((halves 8 y : Nat) : Int) := by
  have f : IntKind.u64.wrap ((y : Int) / 16 + (y : Int)) = ((y / 16 + y : Nat) : Int) := by
    clear m3
    rw [IntKind.wrap_u64]
    omega
  rw [f]
  have := u64_and_nat (y / 16 + y) 1085102592571150095 (by clear f m3; omega) (by decide)
  unfold halves
  rw [m3]
  exact this
theorem walk_last (y p : Nat) (h : y < 9223372036854775808) (hp : y % 128 = p) : wrap64 (y : Int) = (y : Int) ∧ bits .and .i64 (y : Int) 127 = (p : Int) := by
  refine ⟨by unfold wrap64; omega, ?_⟩
  have := i64_and 7 128 rfl (by decide) (y : Int) (by omega) (by omega)
  rw [show (128 : Int) - 1 = 127 from rfl] at this
  rw [this, ← hp]
  omega
set_option maxHeartbeats 1000000 in
theorem count_any (x : Nat) (h : x < 18446744073709551616) (w : World) : Calls Try.prog 22 #[.int .u64 x] w fun e w' => e = .returned (.int .i64 (pop x)) ∧ w = w' := by
  have m1 : mask 85 8 = 6148914691236517205 := by decide +kernel
  have m2 : mask 51 8 = 3689348814741910323 := by decide +kernel
  have m3 : mask 15 8 = 1085102592571150095 := by decide +kernel
  have hp := ones_pop x h
  unfold ones at hp
  dsimp only at hp
  have e1 : IntKind.u64.wrap (bits .and .u64 ((x : Int) / 2) 6148914691236517205 + bits .and .u64 (x : Int) 6148914691236517205) = ((pairs 1 85 8 x : Nat) : Int) := walk_pairs 1 85 x 6148914691236517205 2 m1.symm (by decide) h (by decide)
  have l1 := pairs_le 1 85 8 x
  rw [m1] at l1
  generalize pairs 1 85 8 x = y1 at *
  have e2 : IntKind.u64.wrap (bits .and .u64 ((y1 : Int) / 4) 3689348814741910323 + bits .and .u64 (y1 : Int) 3689348814741910323) = ((pairs 2 51 8 y1 : Nat) : Int) := walk_pairs 2 51 y1 3689348814741910323 4 m2.symm (by decide) (Nat.lt_of_le_of_lt l1 (by decide)) (by decide)
  have l2 := pairs_le 2 51 8 y1
  rw [m2] at l2
  generalize pairs 2 51 8 y1 = y2 at *
  have e3 : bits .and .u64 (IntKind.u64.wrap ((y2 : Int) / 16 + (y2 : Int))) 1085102592571150095 = ((halves 8 y2 : Nat) : Int) := walk_halves y2 m3 l2
  have l3 := halves_le 8 y2
  rw [m3] at l3
  generalize halves 8 y2 = y3 at *
  have l4 : y3 + y3 / 256 ≤ 2170205185142300190 := sum_le _ _ _ l3
  have e4 : IntKind.u64.wrap ((y3 : Int) + (y3 : Int) / 256) = ((y3 + y3 / 256 : Nat) : Int) := walk_sum y3 256 (Nat.lt_of_le_of_lt l4 (by decide))
  generalize y3 + y3 / 256 = y4 at *
  have l5 : y4 + y4 / 65536 ≤ 4340410370284600380 := sum_le _ _ _ l4
  have e5 : IntKind.u64.wrap ((y4 : Int) + (y4 : Int) / 65536) = ((y4 + y4 / 65536 : Nat) : Int) := walk_sum y4 65536 (Nat.lt_of_le_of_lt l5 (by decide))
  generalize y4 + y4 / 65536 = y5 at *
  have l6 : y5 + y5 / 4294967296 ≤ 8680820740569200760 := sum_le _ _ _ l5
  have e6 : IntKind.u64.wrap ((y5 : Int) + (y5 : Int) / 4294967296) = ((y5 + y5 / 4294967296 : Nat) : Int) := walk_sum y5 4294967296 (Nat.lt_of_le_of_lt l6 (by decide))
  generalize y5 + y5 / 4294967296 = y6 at *
  obtain ⟨e7, e8⟩ := walk_last y6 (pop x) (Nat.lt_of_le_of_lt l6 (by decide)) hp
  clear m1 m2 m3 hp l1 l2 l3 l4 l5 l6
  go_enter Try.func22, Try.ntmps22
  go_wp2
  go_ret
  exact ⟨rfl, rfl⟩
set_option maxHeartbeats 1000000 in
theorem copy_any (b sd x0 x1 x2 x3 x4 x5 x6 x7 : Nat) (w : World) (hw : w.heap[b]? = some (.cells (cellsF sd [x0, x1, x2, x3, x4, x5, x6, x7]) 42 (0, 0))) : Calls Try.prog 16 #[.pointer (some ⟨b, 0, none⟩)] w fun e w' => e = .returned (.pointer (some ⟨w.heap.size, 0, none⟩)) ∧ w' = w.alloc (.cells (cellsF sd [x0, x1, x2, x3, x4, x5, x6, x7]) 42) := by
  have c0 : w.cell? ⟨b, 0, none⟩ = some (.int .u64 sd) := by rw [cell_of_row w b 0 _ _ _ hw]; rfl
  have c1 : w.cell? ⟨b, 1, none⟩ = some (.int .u64 x0) := by rw [cell_of_row w b 1 _ _ _ hw]; rfl
  have c2 : w.cell? ⟨b, 2, none⟩ = some (.int .u64 x1) := by rw [cell_of_row w b 2 _ _ _ hw]; rfl
  have c3 : w.cell? ⟨b, 3, none⟩ = some (.int .u64 x2) := by rw [cell_of_row w b 3 _ _ _ hw]; rfl
  have c4 : w.cell? ⟨b, 4, none⟩ = some (.int .u64 x3) := by rw [cell_of_row w b 4 _ _ _ hw]; rfl
  have c5 : w.cell? ⟨b, 5, none⟩ = some (.int .u64 x4) := by rw [cell_of_row w b 5 _ _ _ hw]; rfl
  have c6 : w.cell? ⟨b, 6, none⟩ = some (.int .u64 x5) := by rw [cell_of_row w b 6 _ _ _ hw]; rfl
  have c7 : w.cell? ⟨b, 7, none⟩ = some (.int .u64 x6) := by rw [cell_of_row w b 7 _ _ _ hw]; rfl
  have c8 : w.cell? ⟨b, 8, none⟩ = some (.int .u64 x7) := by rw [cell_of_row w b 8 _ _ _ hw]; rfl
  clear hw
  go_enter Try.func16, Try.ntmps16
  go_wp2
  go_ret
  exact ⟨rfl, rfl⟩
theorem clear_run (b sd x0 x1 x2 x3 x4 x5 x6 x7 : Nat) (w : World) (hw : w.heap[b]? = some (.cells (cellsF sd [x0, x1, x2, x3, x4, x5, x6, x7]) 42 (0, 0))) :
    (Builtin.clear_ #[49] 0 #[.slice (some ⟨b, 1, none⟩) 8 8]).run Try.prog w = .ok (.tuple #[]) (w.setRow b (cellsF sd [0, 0, 0, 0, 0, 0, 0, 0])) := by
  have hst := run_storeCells_at Try.prog b 1 42 [.int .u64 0, .int .u64 0, .int .u64 0, .int .u64 0, .int .u64 0, .int .u64 0, .int .u64 0, .int .u64 0] 0 _ w hw (by simp [cellsF]) (by simp [Value.oneCell'])
  have hst2 : (storeCells ⟨b, 1, none⟩ [.int .u64 0, .int .u64 0, .int .u64 0, .int .u64 0, .int .u64 0, .int .u64 0, .int .u64 0, .int .u64 0] 0).run Try.prog w = .ok () (w.setRow b (cellsF sd [0, 0, 0, 0, 0, 0, 0, 0])) := hst
  have hz : (zeroValue 22).run Try.prog w = .ok (.int .u64 0) w := by kernel_rfl
  have hc : (Builtin.zeroCells (Value.int .u64 0).cells 8).toList = [.int .u64 0, .int .u64 0, .int .u64 0, .int .u64 0, .int .u64 0, .int .u64 0, .int .u64 0, .int .u64 0] := by kernel_rfl
  simp [Builtin.clear_, run_underlying Try.underlying49, hz, hc, hst2, Result.andThen]
theorem grown_setRow (w : World) (b : Nat) (cs : Array Value) : w.grownBy (w.setRow b cs) (some b) :=
  ⟨rfl, rfl, rfl, by simp [World.setRow], fun k _ hk => setRow_other w b k cs (fun e => hk (by rw [e]))⟩
set_option maxHeartbeats 1000000 in
theorem clear_any (b sd x0 x1 x2 x3 x4 x5 x6 x7 : Nat) (w : World) (hw : w.heap[b]? = some (.cells (cellsF sd [x0, x1, x2, x3, x4, x5, x6, x7]) 42 (0, 0))) : Calls Try.prog 15 #[.pointer (some ⟨b, 0, none⟩)] w fun e w' => (∃ v, e = .returned v) ∧ w'.heap[b]? = some (.cells (cellsF sd [0, 0, 0, 0, 0, 0, 0, 0]) 42 (0, 0)) ∧ w.grownBy w' (some b) := by
  have h1 := clear_run b sd x0 x1 x2 x3 x4 x5 x6 x7 w hw
  have h2 := setRow_heap w b _ (cellsF sd [0, 0, 0, 0, 0, 0, 0, 0]) _ _ hw
  have h3 := grown_setRow w b (cellsF sd [0, 0, 0, 0, 0, 0, 0, 0])
  clear hw
  go_enter Try.func15, Try.ntmps15
  go_wp2
  go_end0
  exact ⟨⟨_, rfl⟩, h2, h3⟩
/-- The bits of the first k words. -/
def popTo (ws : List Nat) (k : Nat) : Nat := popAll (ws.take k)
theorem pop_le (n : Nat) : pop n ≤ 64 := by
  have := List.countP_le_length (p := fun k => n.testBit k) (l := List.range 64)
  rwa [List.length_range] at this
theorem popTo_succ (ws : List Nat) (k : Nat) (h : k < ws.length) : popTo ws (k + 1) = popTo ws k + pop (ws.getD k 0) := by
  unfold popTo popAll
  rw [List.take_succ_eq_append_getElem h, List.map_append, List.sum_append]
  simp [List.getD, List.getElem?_eq_getElem h]
theorem popTo_le (ws : List Nat) : ∀ k, k ≤ ws.length → popTo ws k ≤ 64 * k
  | 0, _ => by simp [popTo, popAll]
  | k + 1, h => by
    have h1 := popTo_le ws k (by omega)
    have h2 := pop_le (ws.getD k 0)
    rw [popTo_succ ws k (by omega)]
    omega
theorem index_run (x0 x1 x2 x3 x4 x5 x6 x7 k : Nat) (hk : k < 8) (w : World) : (Instr.index 40 (.agg #[.int .u64 x0, .int .u64 x1, .int .u64 x2, .int .u64 x3, .int .u64 x4, .int .u64 x5, .int .u64 x6, .int .u64 x7]) (.int .i64 (k : Int))).run Try.prog w = .ok (.int .u64 (([x0, x1, x2, x3, x4, x5, x6, x7].getD k 0 : Nat) : Int)) w := by
  have h : k = 0 ∨ k = 1 ∨ k = 2 ∨ k = 3 ∨ k = 4 ∨ k = 5 ∨ k = 6 ∨ k = 7 := by omega
  clear hk
  rcases h with rfl | rfl | rfl | rfl | rfl | rfl | rfl | rfl <;> (show _ = _; kernel_rfl)
set_option maxHeartbeats 1000000 in
theorem ones_any (b sd x0 x1 x2 x3 x4 x5 x6 x7 : Nat) (hl : ∀ x ∈ [x0, x1, x2, x3, x4, x5, x6, x7], x < 18446744073709551616) (w : World) (hw : w.heap[b]? = some (.cells (cellsF sd [x0, x1, x2, x3, x4, x5, x6, x7]) 42 (0, 0))) : Calls Try.prog 17 #[.pointer (some ⟨b, 0, none⟩)] w fun e w' => e = .returned (.int .i64 (popAll [x0, x1, x2, x3, x4, x5, x6, x7])) ∧ w = w' := by
  have c1 : w.cell? ⟨b, 1, none⟩ = some (.int .u64 x0) := by rw [cell_of_row w b 1 _ _ _ hw]; rfl
  have c2 : w.cell? ⟨b, 2, none⟩ = some (.int .u64 x1) := by rw [cell_of_row w b 2 _ _ _ hw]; rfl
  have c3 : w.cell? ⟨b, 3, none⟩ = some (.int .u64 x2) := by rw [cell_of_row w b 3 _ _ _ hw]; rfl
  have c4 : w.cell? ⟨b, 4, none⟩ = some (.int .u64 x3) := by rw [cell_of_row w b 4 _ _ _ hw]; rfl
  have c5 : w.cell? ⟨b, 5, none⟩ = some (.int .u64 x4) := by rw [cell_of_row w b 5 _ _ _ hw]; rfl
  have c6 : w.cell? ⟨b, 6, none⟩ = some (.int .u64 x5) := by rw [cell_of_row w b 6 _ _ _ hw]; rfl
  have c7 : w.cell? ⟨b, 7, none⟩ = some (.int .u64 x6) := by rw [cell_of_row w b 7 _ _ _ hw]; rfl
  have c8 : w.cell? ⟨b, 8, none⟩ = some (.int .u64 x7) := by rw [cell_of_row w b 8 _ _ _ hw]; rfl
  have HX := hide (index_run x0 x1 x2 x3 x4 x5 x6 x7)
  obtain ⟨ws, ew⟩ : ∃ ws, ws = [x0, x1, x2, x3, x4, x5, x6, x7] := ⟨_, rfl⟩
  rw [← ew] at hl HX ⊢
  have l8 : ws.length = 8 := by rw [ew]; rfl
  have L8 := hide l8
  have HA : Hid (popTo ws 8 = popAll ws) := by
    show _ = _
    unfold popTo
    rw [List.take_of_length_le (by omega)]
  clear hw ew l8
  go_enter Try.func17, Try.ntmps17
  go_wp2
  clear c1 c2 c3 c4 c5 c6 c7 c8
  go_loop [3, 10] (fun m i => ∃ k : Nat, k ≤ 8 ∧ i = .int .i64 k ∧ m = .int .i64 (popTo ws k))
    (fun _ i => 8 - (intOf i).toNat)
  case atStart => exact ⟨0, by omega, rfl, rfl⟩
  case round =>
    obtain ⟨k, hk, rfl, rfl⟩ := hrel
    by_cases hlt : k < 8
    · have hix := HX.out k hlt
      have hlen : k < ws.length := by rw [L8.out]; exact hlt
      have hx : ws.getD k 0 < 18446744073709551616 := hl _ (by simp only [List.getD, List.getElem?_eq_getElem hlen, Option.getD_some]; exact List.getElem_mem hlen)
      have hp := pop_le (ws.getD k 0)
      have hs := hide (popTo_succ ws k hlen)
      have hq := popTo_le ws k (by omega)
      generalize ws.getD k 0 = x at *
      generalize hP : popTo ws k = P at *
      clear hP
      go_wp2_with (go_at_call 22; refine (count_any x hx _).mono ?_; rintro e w1 ⟨rfl, rfl⟩)
      go_round
      case rel => exact ⟨k + 1, by omega, by go_num, by rw [hs.out]; go_num⟩
      case measure => simp [intOf]; omega
    · obtain rfl : k = 8 := by omega
      go_wp2
      go_ret
      exact ⟨by rw [← HA.out]; rfl, rfl⟩

theorem fil_lt {w : World} {b sd : Nat} {S : List Nat} (h : Fil0 w b sd S) : b < w.heap.size := by
  obtain ⟨_, _, _, _, h⟩ := h
  exact (Array.getElem?_eq_some_iff.1 h).1
theorem fil_good {w : World} {b sd : Nat} {S : List Nat} (h : Fil0 w b sd S) : Good S ∧ sd < 18446744073709551616 := by
  obtain ⟨_, _, h1, h2, _⟩ := h
  exact ⟨h1, h2⟩
theorem fil_keep {w w' : World} {b sd : Nat} {S : List Nat} (h : Fil0 w b sd S) (e : w'.heap[b]? = w.heap[b]?) : Fil0 w' b sd S := by
  obtain ⟨ws, h1, h2, h3, h4⟩ := h
  exact ⟨ws, h1, h2, h3, e.trans h4⟩
theorem fil_new (sd : Nat) (h : sd < 18446744073709551616) (w : World) : Calls Try.prog 10 #[.int .u64 sd] w fun e w' => ∃ b, e = .returned (.pointer (some ⟨b, 0, none⟩)) ∧ w.heap.size ≤ b ∧ Fil0 w' b sd [] ∧ w.grownBy w' none := by
  refine (new_any sd w).mono ?_
  rintro e w' ⟨rfl, rfl⟩
  exact ⟨_, rfl, Nat.le_refl _, ⟨_, bits_nil, good_nil, h, heap_alloc_new w _⟩, World.grownBy_alloc w _ none⟩
theorem fil_copy {w : World} {b sd : Nat} {S : List Nat} (h : Fil0 w b sd S) : Calls Try.prog 16 #[.pointer (some ⟨b, 0, none⟩)] w fun e w' => ∃ b', e = .returned (.pointer (some ⟨b', 0, none⟩)) ∧ w.heap.size ≤ b' ∧ Fil0 w' b' sd S ∧ w.grownBy w' none := by
  obtain ⟨ws, h1, h2, h3, h4⟩ := h
  obtain ⟨x0, x1, x2, x3, x4, x5, x6, x7, rfl⟩ := eight h1.len
  refine (copy_any b sd x0 x1 x2 x3 x4 x5 x6 x7 w h4).mono ?_
  rintro e w' ⟨rfl, rfl⟩
  exact ⟨_, rfl, Nat.le_refl _, ⟨_, h1, h2, h3, heap_alloc_new w _⟩, World.grownBy_alloc w _ none⟩
theorem fil_clear {w : World} {b sd : Nat} {S : List Nat} (h : Fil0 w b sd S) : Calls Try.prog 15 #[.pointer (some ⟨b, 0, none⟩)] w fun e w' => (∃ v, e = .returned v) ∧ Fil0 w' b sd [] ∧ w.grownBy w' (some b) := by
  obtain ⟨ws, h1, _, h3, h4⟩ := h
  obtain ⟨x0, x1, x2, x3, x4, x5, x6, x7, rfl⟩ := eight h1.len
  refine (clear_any b sd x0 x1 x2 x3 x4 x5 x6 x7 w h4).mono ?_
  rintro e w' ⟨hv, hc, hg⟩
  exact ⟨hv, ⟨_, bits_nil, good_nil, h3, hc⟩, hg⟩
theorem fil_ones {w : World} {b sd : Nat} {S : List Nat} (h : Fil0 w b sd S) : Calls Try.prog 17 #[.pointer (some ⟨b, 0, none⟩)] w fun e w' => e = .returned (.int .i64 S.length) ∧ Fil0 w' b sd S ∧ w.grownBy w' none := by
  have hf := h
  obtain ⟨ws, h1, h2, h3, h4⟩ := h
  have hp := bits_pop h1 h2
  obtain ⟨x0, x1, x2, x3, x4, x5, x6, x7, rfl⟩ := eight h1.len
  refine (ones_any b sd x0 x1 x2 x3 x4 x5 x6 x7 h1.lt w h4).mono ?_
  rintro e w' ⟨rfl, rfl⟩
  exact ⟨by rw [hp], hf, gr_refl _ _⟩
end Go.Proofs.Ytidnjcoljfccdaa
