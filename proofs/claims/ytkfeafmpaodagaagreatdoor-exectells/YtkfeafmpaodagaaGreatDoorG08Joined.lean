/- What the filter is in memory, and what New, Copy, Clear, Ones and a place's bit come to in package bloom. Conditions: none. The places of a text in package bloom: the sequence that is made, and what it tells, one by one, as long as one goes on: it ranges over hash.Several itself. Conditions: the text takes at most 140737488351232 bytes. What Has of package bloom answers. Conditions: the text takes at most 300 bytes. What Add of package bloom does, and with it all of the package's contracts. Conditions: the text takes at most 300 bytes. -/
import Derived.Test.YtkfeafmpaodagaaGreatDoorG07Joined
import Derived.Laws.Tables
import Derived.Laws.Rows
import Derived.Laws.CopyRow
import Derived.Test.YtkfeafmpaodagaaGreatDoorG06Joined
import Derived.Stop.RegionWithIn
import Derived.Deep.RegionHeld3
import Derived.Test.YtkfeafmpaodagaaGreatDoorG01Joined
namespace Go.Proofs.YtkfeafmpaodagaaGreatDoor
open Go.RowKit

/-- The cells of a filter: its seed, and its eight words. -/
def cellsF (sd : Nat) (ws : List Nat) : Array Value := (.int .u64 sd :: ws.map fun x => .int .u64 (x : Nat)).toArray
/-- The filter at block b has this seed and these places set. -/
def Fil0 (w : World) (b sd : Nat) (S : List Nat) : Prop := ∃ ws : List Nat, Bits8 ws S ∧ Good S ∧ sd < 18446744073709551616 ∧ w.heap[b]? = some (.cells (cellsF sd ws) 157 (0, 0))

theorem eight {ws : List Nat} (h : ws.length = 8) : ∃ a b c d e f g k, ws = [a, b, c, d, e, f, g, k] := by
  match ws, h with
  | [a, b, c, d, e, f, g, k], _ => exact ⟨a, b, c, d, e, f, g, k, rfl⟩

theorem i64_and (m : Nat) (M : Int) (hM : M = (2 ^ m : Nat)) (hm : m < 63) (A : Int) (h0 : 0 ≤ A) (hs : A < 9223372036854775808) : bits .and .i64 A (M - 1) = A % M := by
  obtain ⟨a, rfl⟩ := Int.eq_ofNat_of_zero_le h0
  have hp : 2 ^ m < 2 ^ 63 := Nat.pow_lt_pow_right (by decide) hm
  have hp0 : 0 < 2 ^ m := Nat.two_pow_pos m
  have hp63 : (2 : Nat) ^ 63 = 9223372036854775808 := by decide
  have e : M - 1 = ((2 ^ m - 1 : Nat) : Int) := by omega
  have h1 : (BitVec.ofInt 64 (a : Int)).toNat = a := by
    rw [BitVec.ofInt_natCast, BitVec.toNat_ofNat]; exact Nat.mod_eq_of_lt (by omega)
  have h2 : (BitVec.ofInt 64 ((2 ^ m - 1 : Nat) : Int)).toNat = 2 ^ m - 1 := by
    rw [BitVec.ofInt_natCast, BitVec.toNat_ofNat]; exact Nat.mod_eq_of_lt (by omega)
  rw [e]
  show IntKind.i64.wrap ((BitVec.ofInt 64 (a : Int) &&& BitVec.ofInt 64 ((2 ^ m - 1 : Nat) : Int)).toNat : Int) = _
  have h3 := Nat.mod_lt a hp0
  rw [BitVec.toNat_and, h1, h2, Nat.and_two_pow_sub_one_eq_mod, IntKind.wrap_i64, hM]
  omega
set_option maxHeartbeats 1000000 in
theorem new_any (sd : Nat) (w : World) : Calls Tryz.prog 49 #[.int .u64 sd] w fun e w' => e = .returned (.pointer (some ⟨w.heap.size, 0, none⟩)) ∧ w' = w.alloc (.cells (cellsF sd [0, 0, 0, 0, 0, 0, 0, 0]) 157) := by
  go_enter Tryz.func49, Tryz.ntmps49
  go_wp2
  go_ret
  exact ⟨rfl, rfl⟩
set_option maxHeartbeats 1000000 in
theorem bit_any (p : Nat) (h : p < 512) (w : World) : Calls Tryz.prog 127 #[.int .i64 p] w fun e w' => e = .returned (.int .u64 ((2 ^ (p % 64) : Nat) : Int)) ∧ w = w' := by
  have e : IntKind.u64.wrap ((2 : Int) ^ (p % 64)) = ((2 ^ (p % 64) : Nat) : Int) := by
    have h1 := two_pow_lt (show p % 64 < 64 by omega)
    have h2 : (2 : Int) ^ (p % 64) = ((2 ^ (p % 64) : Nat) : Int) := by simp
    obtain ⟨m, hm⟩ : ∃ m, m = 2 ^ (p % 64) := ⟨_, rfl⟩
    rw [IntKind.wrap_u64, h2, ← hm]
    rw [← hm] at h1
    omega
  have E := hide e
  clear e
  go_enter Tryz.func127, Tryz.ntmps127
  go_wp2
  go_ret
  refine ⟨?_, rfl⟩
  rw [← E.out]
  rfl
theorem pairs_le (s c k x : Nat) : pairs s c k x ≤ 2 * mask c k := by
  unfold pairs
  have h1 : x / 2 ^ s &&& mask c k ≤ mask c k := Nat.and_le_right
  have h2 : x &&& mask c k ≤ mask c k := Nat.and_le_right
  omega
theorem halves_le (k x : Nat) : halves k x ≤ mask 15 k := Nat.and_le_right
theorem walk_pairs (s c x : Nat) (M D : Nat) (hM : M = mask c 8) (hD : D = 2 ^ s) (h : x < 18446744073709551616) (h2 : 2 * M < 18446744073709551616) :
    IntKind.u64.wrap (bits .and .u64 ((x : Int) / (D : Int)) (M : Int) + bits .and .u64 (x : Int) (M : Int)) = ((pairs s c 8 x : Nat) : Int) := by
  have e1 : (x : Int) / (D : Int) = ((x / D : Nat) : Int) := by simp
  have l1 : x / D < 18446744073709551616 := Nat.lt_of_le_of_lt (Nat.div_le_self _ _) h
  rw [e1, u64_and_nat _ _ l1 (by omega), u64_and_nat _ _ h (by omega), IntKind.wrap_u64]
  have h3 := pairs_le s c 8 x
  unfold pairs at h3 ⊢
  rw [← hM] at h3
  rw [hD] at *
  rw [← hM]
  omega
theorem sum_le (y D M : Nat) (h : y ≤ M) : y + y / D ≤ 2 * M := by
  have := Nat.div_le_self y D
  omega
theorem walk_sum (y D : Nat) (h : y + y / D < 18446744073709551616) : IntKind.u64.wrap ((y : Int) + (y : Int) / (D : Int)) = ((y + y / D : Nat) : Int) := by
  have e : (y : Int) / (D : Int) = ((y / D : Nat) : Int) := by simp
  rw [IntKind.wrap_u64, e]
  generalize y / D = z at h ⊢
  omega
theorem walk_halves (y : Nat) (m3 : mask 15 8 = 1085102592571150095) (h : y ≤ 2 * 3689348814741910323) : bits .and .u64 (IntKind.u64.wrap ((y : Int) / 16 + (y : Int))) 1085102592571150095 = ((halves 8 y : Nat) : Int) := by
  have f : IntKind.u64.wrap ((y : Int) / 16 + (y : Int)) = ((y / 16 + y : Nat) : Int) := by
    clear m3
    rw [IntKind.wrap_u64]
    omega
  rw [f]
  have := u64_and_nat (y / 16 + y) 1085102592571150095 (by clear f m3; omega) (by decide)
  unfold halves
  rw [m3]
  exact this
theorem walk_last (y p : Nat) (h : y < 9223372036854775808) (hp : y % 128 = p) : wrap64 (y : Int) = (y : Int) ∧ bits .and .i64 (y : Int) 127 = (p : Int) := by
  refine ⟨by unfold wrap64; omega, ?_⟩
  have := i64_and 7 128 rfl (by decide) (y : Int) (by omega) (by omega)
  rw [show (128 : Int) - 1 = 127 from rfl] at this
  rw [this, ← hp]
  omega
theorem clear_run (b sd x0 x1 x2 x3 x4 x5 x6 x7 : Nat) (w : World) (hw : w.heap[b]? = some (.cells (cellsF sd [x0, x1, x2, x3, x4, x5, x6, x7]) 157 (0, 0))) :
    (Builtin.clear_ #[200] 0 #[.slice (some ⟨b, 1, none⟩) 8 8]).run Tryz.prog w = .ok (.tuple #[]) (w.setRow b (cellsF sd [0, 0, 0, 0, 0, 0, 0, 0])) := by
  have hst := run_storeCells_at Tryz.prog b 1 157 [.int .u64 0, .int .u64 0, .int .u64 0, .int .u64 0, .int .u64 0, .int .u64 0, .int .u64 0, .int .u64 0] 0 _ w hw (by simp [cellsF]) (by simp [Value.oneCell'])
  have hst2 : (storeCells ⟨b, 1, none⟩ [.int .u64 0, .int .u64 0, .int .u64 0, .int .u64 0, .int .u64 0, .int .u64 0, .int .u64 0, .int .u64 0] 0).run Tryz.prog w = .ok () (w.setRow b (cellsF sd [0, 0, 0, 0, 0, 0, 0, 0])) := hst
  have hz : (zeroValue 22).run Tryz.prog w = .ok (.int .u64 0) w := by kernel_rfl
  have hc : (Builtin.zeroCells (Value.int .u64 0).cells 8).toList = [.int .u64 0, .int .u64 0, .int .u64 0, .int .u64 0, .int .u64 0, .int .u64 0, .int .u64 0, .int .u64 0] := by kernel_rfl
  simp [Builtin.clear_, run_underlying Tryz.underlying200, hz, hc, hst2, Result.andThen]
theorem grown_setRow (w : World) (b : Nat) (cs : Array Value) : w.grownBy (w.setRow b cs) (some b) :=
  ⟨rfl, rfl, rfl, by simp [World.setRow], fun k _ hk => setRow_other w b k cs (fun e => hk (by rw [e]))⟩
set_option maxHeartbeats 1000000 in
theorem clear_any (b sd x0 x1 x2 x3 x4 x5 x6 x7 : Nat) (w : World) (hw : w.heap[b]? = some (.cells (cellsF sd [x0, x1, x2, x3, x4, x5, x6, x7]) 157 (0, 0))) : Calls Tryz.prog 92 #[.pointer (some ⟨b, 0, none⟩)] w fun e w' => (∃ v, e = .returned v) ∧ w'.heap[b]? = some (.cells (cellsF sd [0, 0, 0, 0, 0, 0, 0, 0]) 157 (0, 0)) ∧ w.grownBy w' (some b) := by
  have h1 := clear_run b sd x0 x1 x2 x3 x4 x5 x6 x7 w hw
  have h2 := setRow_heap w b _ (cellsF sd [0, 0, 0, 0, 0, 0, 0, 0]) _ _ hw
  have h3 := grown_setRow w b (cellsF sd [0, 0, 0, 0, 0, 0, 0, 0])
  clear hw
  go_enter Tryz.func92, Tryz.ntmps92
  go_wp2
  go_end0
  exact ⟨⟨_, rfl⟩, h2, h3⟩
/-- The bits of the first k words. -/
def popTo (ws : List Nat) (k : Nat) : Nat := popAll (ws.take k)
theorem pop_le (n : Nat) : pop n ≤ 64 := by
  have := List.countP_le_length (p := fun k => n.testBit k) (l := List.range 64)
  rwa [List.length_range] at this
theorem popTo_succ (ws : List Nat) (k : Nat) (h : k < ws.length) : popTo ws (k + 1) = popTo ws k + pop (ws.getD k 0) := by
  unfold popTo popAll
  rw [List.take_succ_eq_append_getElem h, List.map_append, List.sum_append]
  simp [List.getD, List.getElem?_eq_getElem h]
theorem popTo_le (ws : List Nat) : ∀ k, k ≤ ws.length → popTo ws k ≤ 64 * k
  | 0, _ => by simp [popTo, popAll]
  | k + 1, h => by
    have h1 := popTo_le ws k (by omega)
    have h2 := pop_le (ws.getD k 0)
    rw [popTo_succ ws k (by omega)]
    omega
theorem index_run (x0 x1 x2 x3 x4 x5 x6 x7 k : Nat) (hk : k < 8) (w : World) : (Instr.index 155 (.agg #[.int .u64 x0, .int .u64 x1, .int .u64 x2, .int .u64 x3, .int .u64 x4, .int .u64 x5, .int .u64 x6, .int .u64 x7]) (.int .i64 (k : Int))).run Tryz.prog w = .ok (.int .u64 (([x0, x1, x2, x3, x4, x5, x6, x7].getD k 0 : Nat) : Int)) w := by
  have h : k = 0 ∨ k = 1 ∨ k = 2 ∨ k = 3 ∨ k = 4 ∨ k = 5 ∨ k = 6 ∨ k = 7 := by omega
  clear hk
  rcases h with rfl | rfl | rfl | rfl | rfl | rfl | rfl | rfl <;> (show _ = _; kernel_rfl)
theorem fil_lt {w : World} {b sd : Nat} {S : List Nat} (h : Fil0 w b sd S) : b < w.heap.size := by
  obtain ⟨_, _, _, _, h⟩ := h
  exact (Array.getElem?_eq_some_iff.1 h).1
theorem fil_good {w : World} {b sd : Nat} {S : List Nat} (h : Fil0 w b sd S) : Good S ∧ sd < 18446744073709551616 := by
  obtain ⟨_, _, h1, h2, _⟩ := h
  exact ⟨h1, h2⟩
theorem fil_keep {w w' : World} {b sd : Nat} {S : List Nat} (h : Fil0 w b sd S) (e : w'.heap[b]? = w.heap[b]?) : Fil0 w' b sd S := by
  obtain ⟨ws, h1, h2, h3, h4⟩ := h
  exact ⟨ws, h1, h2, h3, e.trans h4⟩
theorem fil_new (sd : Nat) (h : sd < 18446744073709551616) (w : World) : Calls Tryz.prog 49 #[.int .u64 sd] w fun e w' => ∃ b, e = .returned (.pointer (some ⟨b, 0, none⟩)) ∧ w.heap.size ≤ b ∧ Fil0 w' b sd [] ∧ w.grownBy w' none := by
  refine (new_any sd w).mono ?_
  rintro e w' ⟨rfl, rfl⟩
  exact ⟨_, rfl, Nat.le_refl _, ⟨_, bits_nil, good_nil, h, heap_alloc_new w _⟩, World.grownBy_alloc w _ none⟩
theorem fil_clear {w : World} {b sd : Nat} {S : List Nat} (h : Fil0 w b sd S) : Calls Tryz.prog 92 #[.pointer (some ⟨b, 0, none⟩)] w fun e w' => (∃ v, e = .returned v) ∧ Fil0 w' b sd [] ∧ w.grownBy w' (some b) := by
  obtain ⟨ws, h1, _, h3, h4⟩ := h
  obtain ⟨x0, x1, x2, x3, x4, x5, x6, x7, rfl⟩ := eight h1.len
  refine (clear_any b sd x0 x1 x2 x3 x4 x5 x6 x7 w h4).mono ?_
  rintro e w' ⟨hv, hc, hg⟩
  exact ⟨hv, ⟨_, bits_nil, good_nil, h3, hc⟩, hg⟩
end Go.Proofs.YtkfeafmpaodagaaGreatDoor

namespace Go.Proofs.YtkfeafmpaodagaaGreatDoor
open Go.RowKit Go.Shelf
attribute [local go_sem] Oper.semAt_some

set_option maxHeartbeats 1000000 in
theorem placesMk_in (n b : Nat) (s : ByteArray) (w : World) :
    CallsIn Fence.wide n Tryz.prog 126 #[.pointer (some ⟨b, 0, none⟩), .string s] w fun e w' =>
      e = .returned (.func (.func 159) #[] #[.pointer (some ⟨w.heap.size, 0, none⟩), .pointer (some ⟨w.heap.size + 1, 0, none⟩)]) ∧
      w' = (w.alloc (.cells #[.pointer (some ⟨b, 0, none⟩)] 111)).alloc (.cells #[.string s] 9) := by
  refine callsIn_of_wp Tryz.func126 rfl trivial ?_ rfl
  simp only [Tryz.ntmps126, List.size_toArray, List.length_cons, List.length_nil, Nat.reduceAdd, Nat.reduceSub, Array.replicate_succ, Array.replicate_zero, List.push_toArray, List.append_toArray, List.nil_append, List.cons_append]
  gi_wp2
  go_ret
  exact ⟨rfl, rfl⟩

/-- What is told of the k-th place. -/
def plV (sd : Nat) (l : List UInt8) (k : Nat) : Array Value := #[.int .i64 (placeN sd l k : Nat)]
theorem below_place (sd : Nat) (l : List UInt8) (k : Nat) : belowN (sevN sd l k) 512 = ((placeN sd l k : Nat) : Int) := by
  unfold belowN placeN sevN
  rw [if_neg (by decide)]
  omega



set_option maxRecDepth 100000 in
set_option maxHeartbeats 4000000 in
theorem places1_in (l Bf Bs b sd : Nat) (s : ByteArray) (hs : s.size ≤ 140737488351232) (J Jx : List Nat → World → Prop) (W : World) (hJ : OwnFrom W.heap.size J) (hJx : OwnFrom W.heap.size Jx)
    (hY : ∀ pre x V, J pre V → pre.length < 3 → YieldAt Fence.wide (5 - 1) Tryz.prog l (plV sd s.data.toList x) V fun e V' =>
      Since W.heap.size V V' ∧ ((e = .returned (.bool true) ∧ J (pre ++ [x]) V') ∨ (e = .returned (.bool false) ∧ Jx (pre ++ [x]) V')))
    (cf : W.cell? ⟨Bf, 0, none⟩ = some (.pointer (some ⟨b, 0, none⟩))) (cs : W.cell? ⟨Bs, 0, none⟩ = some (.string s)) (cd : W.cell? ⟨b, 0, none⟩ = some (.int .u64 sd)) (h0 : J [] W) :
    CallsIn Fence.wide 5 Tryz.prog 159 #[.func (.yield l) #[] #[], .pointer (some ⟨Bf, 0, none⟩), .pointer (some ⟨Bs, 0, none⟩)] W fun e W' => (∃ v, e = .returned v) ∧
      ((∃ ys, ys = List.range 3 ∧ J ys W') ∨ (∃ pre, pre <+: List.range 3 ∧ Jx pre W')) := by
  refine callsIn_of_wp_marks Tryz.func159 rfl trivial ?_ rfl
  simp only [Tryz.ntmps159, List.size_toArray, List.length_cons, List.length_nil, Nat.reduceAdd, Nat.reduceSub, Array.replicate_succ, Array.replicate_zero, List.push_toArray, List.append_toArray, List.nil_append, List.cons_append]
  gi_wp2
  obtain ⟨W1, hW1, bg, sz1, _, cl1, own1⟩ := box1 W (.func (.yield l) #[] #[]) 44
  have cf1 := cl1 _ _ cf
  have cs1 := cl1 _ _ cs
  have cd1 := cl1 _ _ cd
  have j1 := own1 hJ h0
  rw [hW1]
  clear hW1 cl1 own1 cf cs cd h0
  refine Code.wpIn_mono (Meets.imp (b := { tmps := #[.func (.yield l) #[] #[], .pointer (some ⟨Bf, 0, none⟩), .pointer (some ⟨Bs, 0, none⟩), .pointer (some ⟨W.heap.size, 0, none⟩), undef, undef, .pointer (some ⟨b, 0, none⟩), .pointer (some ⟨b, 0, none⟩), .pointer (some ⟨b, 0, none⟩), .int .u64 sd, .string s,
      .func (.func 190) #[] #[.pointer (some ⟨W.heap.size + 1 + 1 + 1, 0, none⟩), .pointer (some ⟨W.heap.size + 1, 0, none⟩), .pointer (some ⟨W.heap.size + 1 + 1, 0, none⟩)], undef, undef, undef, undef, undef, undef, undef], defers := [] })
    (v := (((W1.alloc (.cells #[.int .u64 sd] 22)).alloc (.cells #[.string s] 9)).alloc (.cells #[.int .i64 3] 3)).drew) ?rest) ?region
  case region =>
    gi_region_with (refine ⟨trivial, ?_⟩; gi_at_call 160; refine (severalMk_in (5 - 1) sd s 3 _).mono ?_; rintro e w1 ⟨rfl, rfl⟩)
    all_goals exact ⟨rfl, rfl⟩
  obtain ⟨W2, hW2, bd, bs, bm, sz2, bk2, own2⟩ := boxes3 W1 sd s 3
  have bg2 := bk2 bg
  have j2 := own2 hJ j1
  gi_wp2
  rw [hW2]
  clear hW2 bk2 own2 cf1 cs1 cd1 j1 bg
  rw [sz1] at bd bs bm sz2
  refine wpIn_rangeFunc_ownG rfl (by decide) (gf := 190) (lb := #[.pointer (some ⟨W.heap.size + 1 + 1 + 1, 0, none⟩), .pointer (some ⟨W.heap.size + 1, 0, none⟩), .pointer (some ⟨W.heap.size + 1 + 1, 0, none⟩)]) rfl trivial (enters_of Tryz.func190 (by kernel_rfl) rfl)
    (several_stops (5 - 1) (by decide) _ _ _ sd s hs 3 (by decide) W2 (by omega) (by omega) (by omega) bm.cell bd.cell bs.cell) boxesKept_t (boxesKept_b (by omega) (by omega)) (Below.refl _ _) (fun _ => rfl)
    (fun pre V => J pre V ∧ (Boxed V W.heap.size 44 (.func (.yield l) #[] #[]) ∧ (Boxed V (W.heap.size + 1) 22 (.int .u64 sd) ∧ Boxed V (W.heap.size + 1 + 1) 9 (.string s))))
    (fun c pre V => c = .ret ∧ Jx pre V)
    (OwnFrom.and (own_more hJ (by omega)) (OwnFrom.and (Own.from (boxed_own _ _ (fun _ => _)) _) (OwnFrom.and (Own.from (boxed_own _ _ (fun _ => _)) _) (Own.from (boxed_own _ _ (fun _ => _)) _))))
    (fun c => OwnFrom.and (ownFrom_pure _ _) (own_more hJx (by omega)))
    ⟨j2, bg2, bd, bs⟩ ?a1 ?assign ?body ?done ?stop
  case assign =>
    intro l2 x V K hK
    unfold sevV
    gi_wp2
    exact hK
  case body =>
    rintro l2 pre x V ⟨hj, hg, hd, hss⟩ hlt
    have hcg := hg.cell
    obtain ⟨fn, tmps, assign, body, hy, hR⟩ := yield_depth 2 (hY pre x V.drew (own_drew hJ hj) hlt)
    unfold plV at hy
    have E := hide (below_place sd s.data.toList x)
    have hh : sevN sd s.data.toList x < 18446744073709551616 := of_lt _ _
    generalize sevN sd s.data.toList x = h at *
    have hmix : Tryz.prog.follows .mixedOrders = true := by kernel_rfl
    have hR2 := hR.mono (R' := fun e V' => ∃ q : Bool, e = .returned (.bool q) ∧ Hid (Since W.heap.size V.drew V' ∧ ((q = true ∧ J (pre ++ [x]) V') ∨ (q = false ∧ Jx (pre ++ [x]) V')))) (by
      rintro e V' ⟨h1, ⟨rfl, h2⟩ | ⟨rfl, h2⟩⟩
      · exact ⟨true, rfl, h1, .inl ⟨rfl, h2⟩⟩
      · exact ⟨false, rfl, h1, .inr ⟨rfl, h2⟩⟩)
    clear hR hY
    gi_wp2
    gi_region_with_o (first
      | (refine ⟨trivial, ?_⟩; gi_at_call 156; refine (CallsIn.inRound l2 (callsIn_wide.2 (below_any h hh 512 (by decide) (by decide) _))).mono ?_; rintro e w' ⟨rfl, rfl⟩; rw [E.out])
      | (refine hR2.mono ?_; rintro e V' ⟨q, rfl, HQ⟩))
    all_goals
      obtain ⟨hsn, hq⟩ := HQ.out
      have hsv := (Since.drew W.heap.size V).trans hsn
      clear hsn hy hR2 HQ
      rcases hq with ⟨rfl, hj'⟩ | ⟨rfl, hj'⟩
      · gi_wp2
        exact ⟨hsv.keeps (by omega), boxesKept_of hd hss (hsv.boxed (by omega) hd) (hsv.boxed (by omega) hss), hj', hsv.boxed (by omega) hg, hsv.boxed (by omega) hd, hsv.boxed (by omega) hss⟩
      · gi_wp2
        exact ⟨hsv.keeps (by omega), rfl, hj'⟩
  case done =>
    rintro D ys V hD rfl ⟨hj, hg, hd, hss⟩ hK
    gi_wp2
    refine ⟨by simp, .inl ⟨_, _, rfl, run_takeDeferred hK, ?_⟩⟩
    exact ⟨_, results_none rfl _ _ _, ⟨_, rfl⟩, .inl ⟨_, rfl, own_put hJ _ hj (by omega) hK rfl⟩⟩
  case stop =>
    rintro D c pre V hD hpre ⟨rfl, hj⟩ hK
    gi_wp2
    refine ⟨by simp, .inl ⟨_, _, rfl, run_takeDeferred hK, ?_⟩⟩
    exact ⟨_, results_none rfl _ _ _, ⟨_, rfl⟩, .inr ⟨_, hpre, own_put hJx _ hj (by omega) hK rfl⟩⟩

theorem places_own (Bf Bs b sd : Nat) (s : ByteArray) (hs : s.size ≤ 140737488351232) (w : World) (cf : w.cell? ⟨Bf, 0, none⟩ = some (.pointer (some ⟨b, 0, none⟩))) (cs : w.cell? ⟨Bs, 0, none⟩ = some (.string s)) (cd : w.cell? ⟨b, 0, none⟩ = some (.int .u64 sd)) :
    SeqOwn Fence.wide 5 Tryz.prog 159 #[.pointer (some ⟨Bf, 0, none⟩), .pointer (some ⟨Bs, 0, none⟩)] (plV sd s.data.toList) (fun ys => ys = List.range 3) (fun pre => pre <+: List.range 3) 3 w := fun l J Jx W hW hJ hJx hY h0 =>
  places1_in l Bf Bs b sd s hs J Jx W hJ hJx hY ((hW.cell (p := ⟨Bf, 0, none⟩) (block_lt_of_cell cf)).trans cf) ((hW.cell (p := ⟨Bs, 0, none⟩) (block_lt_of_cell cs)).trans cs) ((hW.cell (p := ⟨b, 0, none⟩) (block_lt_of_cell cd)).trans cd) h0
end Go.Proofs.YtkfeafmpaodagaaGreatDoor

namespace Go.Proofs.YtkfeafmpaodagaaGreatDoor
open Go.RowKit Go.Shelf
attribute [local go_sem] Oper.semAt_some

theorem boxes4h (w : World) (v : Value) (s : ByteArray) : ∃ V, (((w.alloc (.cells #[v] 111)).alloc (.cells #[.bool false] 4)).alloc (.cells #[v] 111)).alloc (.cells #[.string s] 9) = V ∧
    Boxed V w.heap.size 111 v ∧ Boxed V (w.heap.size + 1) 4 (.bool false) ∧ Boxed V (w.heap.size + 1 + 1) 111 v ∧ Boxed V (w.heap.size + 1 + 1 + 1) 9 (.string s) ∧ V.heap.size = w.heap.size + 4 ∧ w.grownBy V none := by
  refine ⟨_, rfl, ?_⟩
  have b0 := Boxed.new w 111 v
  have b1 := Boxed.new (w.alloc (.cells #[v] 111)) 4 (.bool false)
  have b2 := Boxed.new ((w.alloc (.cells #[v] 111)).alloc (.cells #[.bool false] 4)) 111 v
  have b3 := Boxed.new (((w.alloc (.cells #[v] 111)).alloc (.cells #[.bool false] 4)).alloc (.cells #[v] 111)) 9 (.string s)
  simp only [World.size_alloc] at b1 b2 b3
  exact ⟨((b0.alloc _).alloc _).alloc _, (b1.alloc _).alloc _, b2.alloc _, b3, by simp only [World.size_alloc], gr_trans (gr_trans (gr_trans (World.grownBy_alloc _ _ _) (World.grownBy_alloc _ _ _)) (World.grownBy_alloc _ _ _)) (World.grownBy_alloc _ _ _)⟩

/-- A filter's word that holds a place, and the seed's cell. -/
theorem fil_word {w : World} {b sd : Nat} {S : List Nat} (h : Fil0 w b sd S) (p : Nat) (hp : p < 512) : ∃ x : Nat, w.cell? ⟨b, 1 + p / 64, none⟩ = some (.int .u64 x) ∧ x < 18446744073709551616 ∧ (x &&& 2 ^ (p % 64) = 0 ↔ ¬ p ∈ S) := by
  obtain ⟨ws, h1, _, _, h4⟩ := h
  have hl : p / 64 < ws.length := by rw [h1.len]; omega
  have hg : ws.getD (p / 64) 0 = ws[p / 64] := by simp [List.getD, List.getElem?_eq_getElem hl]
  refine ⟨ws.getD (p / 64) 0, ?_, ?_, bits_and h1 p hp⟩
  · rw [cell_of_row w b _ _ _ _ h4, hg]
    simp [cellsF, Nat.add_comm 1, hl]
  · rw [hg]
    exact h1.lt _ (List.getElem_mem hl)
theorem fil_seed {w : World} {b sd : Nat} {S : List Nat} (h : Fil0 w b sd S) : w.cell? ⟨b, 0, none⟩ = some (.int .u64 sd) := by
  obtain ⟨ws, _, _, _, h4⟩ := h
  rw [cell_of_row w b _ _ _ _ h4]
  rfl
theorem has_all3 {S : List Nat} {sd : Nat} {l : List UInt8} (h : ∀ k ∈ List.range 3, placeN sd l k ∈ S) : hasS S (pls sd l) = true := by
  refine (hasS_iff _ _).2 fun p hp => ?_
  have : pls sd l = (List.range 3).map (placeN sd l) := rfl
  rw [this] at hp
  obtain ⟨k, hk, rfl⟩ := List.mem_map.1 hp
  exact h k hk
theorem has_not3 {S : List Nat} {sd : Nat} {l : List UInt8} {pre : List Nat} (hp : pre <+: List.range 3) (h : ∃ k ∈ pre, ¬ placeN sd l k ∈ S) : hasS S (pls sd l) = false := by
  obtain ⟨k, hk, hn⟩ := h
  cases e : hasS S (pls sd l) with
  | false => rfl
  | true =>
    have := (hasS_iff _ _).1 e (placeN sd l k) (by
      have e2 : pls sd l = (List.range 3).map (placeN sd l) := rfl
      rw [e2]
      exact List.mem_map_of_mem (hp.subset hk))
    exact (hn this).elim

/-- The address of a word of a filter. -/
theorem index_at (b q : Nat) (h : q < 8) (W : World) : (Instr.indexAt 155 (.pointer (some ⟨b, 1, none⟩)) (.int .i64 (q : Int))).run Tryz.prog W = .ok (.pointer (some ⟨b, 1 + q, none⟩)) W := by
  have h8 : q = 0 ∨ q = 1 ∨ q = 2 ∨ q = 3 ∨ q = 4 ∨ q = 5 ∨ q = 6 ∨ q = 7 := by omega
  clear h
  rcases h8 with rfl | rfl | rfl | rfl | rfl | rfl | rfl | rfl <;> (show _ = _; kernel_rfl)
theorem quo_word (p : Nat) (h : p < 512) : ((p : Int) / 64) = ((p / 64 : Nat) : Int) ∧ (p : Int).tdiv 64 = ((p / 64 : Nat) : Int) ∧ Value.int .i64 (IntKind.i64.wrap ((p / 64 : Nat) : Int)) = .int .i64 ((p / 64 : Nat) : Int) ∧ p / 64 < 8 := by
  have h1 : ((p : Int) / 64) = ((p / 64 : Nat) : Int) := by omega
  have h2 : p / 64 < 8 := by omega
  refine ⟨h1, by rw [Int.tdiv_eq_ediv_of_nonneg (by omega)]; exact h1, by rw [wrap_nat _ (Nat.lt_trans h2 (by decide))], h2⟩
set_option maxRecDepth 100000 in
set_option maxHeartbeats 4000000 in
theorem fil_has {w : World} {b sd : Nat} {S : List Nat} (hF : Fil0 w b sd S) (s : ByteArray) (hs : s.size ≤ 140737488351232) : Calls Tryz.prog 125 #[.pointer (some ⟨b, 0, none⟩), .string s] w fun e w' => e = .returned (.bool (hasS S (pls sd s.data.toList))) ∧ Fil0 w' b sd S ∧ w.grownBy w' none := by
  refine (callsIn_wide (n := 6)).1 ?_
  have hlt := fil_lt hF
  refine callsIn_of_wp_marks Tryz.func125 rfl trivial ?_ rfl
  simp only [Tryz.ntmps125, List.size_toArray, List.length_cons, List.length_nil, Nat.reduceAdd, Nat.reduceSub, Array.replicate_succ, Array.replicate_zero, List.push_toArray, List.append_toArray, List.nil_append, List.cons_append]
  gi_wp2_with (refine ⟨trivial, ?_⟩; gi_at_call 126; refine (placesMk_in (6 - 1) b s _).mono ?_; rintro e w1 ⟨rfl, rfl⟩)
  obtain ⟨W0, hW0, bf, br, bf2, bs, sz0, hg0⟩ := boxes4h w (.pointer (some ⟨b, 0, none⟩)) s
  rw [hW0]
  clear hW0
  have hRB : w.heap.size + 1 < W0.heap.size := by rw [sz0]; exact Nat.add_lt_add_left (by decide) _
  have hF0 := fil_keep hF (hg0.block b hlt (by simp))
  refine range_own rfl (by decide) (gf := 159) (lb := #[.pointer (some ⟨w.heap.size + 1 + 1, 0, none⟩), .pointer (some ⟨w.heap.size + 1 + 1 + 1, 0, none⟩)]) rfl trivial (enters_of Tryz.func159 (by kernel_rfl) rfl)
    (places_own _ _ b sd s (Nat.le_trans hs (by decide)) W0 bf2.cell bs.cell (fil_seed hF0)) (Below.refl _ _) (fun _ => rfl)
    (fun pre V => (Boxed V w.heap.size 111 (.pointer (some ⟨b, 0, none⟩)) ∧ Boxed V (w.heap.size + 1) 4 (.bool false)) ∧ ((∀ k ∈ pre, placeN sd s.data.toList k ∈ S) ∧ w.grownBy V none))
    (fun c pre V => (c = .ret ∧ ∃ k ∈ pre, ¬ placeN sd s.data.toList k ∈ S) ∧ (Boxed V (w.heap.size + 1) 4 (.bool false) ∧ w.grownBy V none))
    (OwnFrom.and (OwnFrom.and (Own.from (boxed_own _ _ (fun _ => _)) _) (Own.from (boxed_own _ _ (fun _ => _)) _)) (OwnFrom.and (ownFrom_pure _ _) (own_grown hg0.size)))
    (fun c => OwnFrom.and (ownFrom_pure _ _) (OwnFrom.and (Own.from (boxed_own _ _ (fun _ => _)) _) (own_grown hg0.size)))
    ⟨⟨bf, br⟩, (fun k hk => (List.not_mem_nil hk).elim), hg0⟩ ?a1 ?assign ?body ?done ?stop
  case assign =>
    intro l2 x V K hK
    unfold plV
    gi_wp2
    exact hK
  case body =>
    rintro l2 pre x V ⟨⟨hbf, hbr⟩, hall, hg⟩ hlen
    have hFV := fil_keep hF (hg.block b hlt (by simp))
    have hp := place_lt sd s.data.toList x
    obtain ⟨y, hcy, hy, hmem⟩ := fil_word hFV (placeN sd s.data.toList x) hp
    have hcf := hbf.cell
    have hcr := hbr.cell
    have hfr := hbr.frozen
    have hmix : Tryz.prog.follows .mixedOrders = true := by kernel_rfl
    have hB := bit_any (placeN sd s.data.toList x) hp
    generalize hP : placeN sd s.data.toList x = p at *
    have hm := two_pow_lt (Nat.mod_lt p (by decide))
    generalize 2 ^ (p % 64) = m at *
    obtain ⟨hq, hqt, hqw, hq8⟩ := quo_word p hp
    have hix := index_at b _ hq8
    generalize p / 64 = q at *
    clear hq8
    have E : Value.int .u64 (bits .and .u64 (y : Int) (m : Int)) = .int .u64 ((y &&& m : Nat) : Int) := by rw [u64_and_nat y m hy hm]
    generalize y &&& m = z at *
    clear hm hy
    have HC : ∀ k : Nat, CallsIn Fence.wide (4 - 1) Tryz.prog 127 #[.int .i64 p] (V.drewN k) fun e w' => e = .returned (.int .u64 (m : Int)) ∧ w' = V.drewN k := fun k => (callsIn_wide.2 (hB _)).mono fun e w' h => ⟨h.1, h.2.symm⟩
    clear hB
    have hwf : ∀ f, Fence.wide.fn f := fun _ => trivial
    by_cases hz : z = 0
    · have hnot := hide (hmem.1 hz)
      subst hz
      clear hmem
      gi_wp2
      refine region_tail 10 _ l2 rfl rfl (by kernel_rfl) (by kernel_rfl) ?_
      simp only [List.take_succ_cons, List.take_zero]
      repeat (gi_big_quiet_step ((gi_at_call 127; exact CallsIn.quiet_of_same (HC _))))
      refine wpQuietIn_nil ?_
      rintro _ ⟨nq, rfl⟩
      go_simp
      gi_wp2
      refine ⟨(since_drewN _ V nq).trans (since_set _ _ hRB), ⟨rfl, x, List.mem_append_right _ (List.mem_singleton.2 rfl), ?_⟩, Boxed.set _ (show Boxed (V.drewN nq) _ _ _ from hbr), gr_new (gr_drewN hg nq) (grownBy_setCell' _ _ _) (Nat.le_succ _)⟩
      rw [hP]
      exact hnot.out
    · have hin := hide (Decidable.not_not.1 fun hn => hz (hmem.2 hn))
      have hzb : ((z : Int) == 0) = false := nat_beq hz
      clear hmem hz
      gi_wp2
      refine region_tail 10 _ l2 rfl rfl (by kernel_rfl) (by kernel_rfl) ?_
      simp only [List.take_succ_cons, List.take_zero]
      repeat (gi_big_quiet_step ((gi_at_call 127; exact CallsIn.quiet_of_same (HC _))))
      refine wpQuietIn_nil ?_
      rintro _ ⟨nq, rfl⟩
      go_simp
      gi_wp2
      refine ⟨since_drewN _ V nq, ⟨hbf, hbr⟩, fun k hk => ?_, gr_drewN hg nq⟩
      rcases List.mem_append.1 hk with h1 | h1
      · exact hall k h1
      · rw [List.mem_singleton.1 h1, hP]
        exact hin.out
  case done =>
    rintro D ys V hD rfl ⟨⟨hbf, hbr⟩, hall, hg⟩ hK
    have hcr := hbr.cell
    have hfr := hbr.frozen
    obtain ⟨l1, l2, l3⟩ := last_store (b := true) hbr (Nat.le_trans hg0.size hD) (Nat.ne_of_lt (Nat.lt_of_lt_of_le hRB hD)) (Nat.le_succ _) (below_gr hg) hK
    have hh := hide (has_all3 hall)
    clear hall
    gi_wp2
    refine ⟨by simp, .inl ⟨_, _, rfl, run_takeDeferred l1, ?_⟩⟩
    refine ⟨.bool true, ?_, by rw [hh.out], fil_keep hF ((gr_of_below l3).block b hlt (by simp)), gr_of_below l3⟩
    rw [results_cell rfl]
    go_simp
  case stop =>
    rintro D c pre V hD hpre ⟨⟨rfl, hex⟩, hbr, hg⟩ hK
    have hh := hide (has_not3 hpre hex)
    have hg2 := gr_new hg (grownBy_putObj' V D (.deferred none)) (Nat.le_trans hg0.size hD)
    have hbr2 : (V.putObj D (.deferred none)).cell? ⟨w.heap.size + 1, 0, none⟩ = some (.bool false) := by
      rw [World.cell?_of_block (w := V) (World.putObj_heap_other (Nat.ne_of_lt (Nat.lt_of_lt_of_le hRB hD)))]
      exact hbr.cell
    clear hex
    gi_wp2
    refine ⟨by simp, .inl ⟨_, _, rfl, run_takeDeferred hK, ?_⟩⟩
    refine ⟨.bool false, ?_, by rw [hh.out], fil_keep hF (hg2.block b hlt (by simp)), hg2⟩
    rw [results_cell rfl]
    go_simp
end Go.Proofs.YtkfeafmpaodagaaGreatDoor

namespace Go.Proofs.YtkfeafmpaodagaaGreatDoor
open Go.RowKit Go.Shelf
attribute [local go_sem] Oper.semAt_some

theorem cells_set (sd : Nat) (ws : List Nat) (q y : Nat) : (cellsF sd ws).setIfInBounds (1 + q) (.int .u64 (y : Int)) = cellsF sd (ws.set q y) := by
  unfold cellsF
  rw [List.setIfInBounds_toArray, Nat.add_comm, List.set_cons_succ, List.map_set]
/-- The word of a place, and the filter behind the place's bit. -/
theorem fil_store {w : World} {b sd : Nat} {S : List Nat} (h : Fil0 w b sd S) (p : Nat) (hp : p < 512) : ∃ y : Nat, w.cell? ⟨b, 1 + p / 64, none⟩ = some (.int .u64 y) ∧ w.frozen? ⟨b, 1 + p / 64, none⟩ = false ∧ y < 18446744073709551616 ∧
    ∀ k : Nat, Fil0 ((w.drewN k).setCell ⟨b, 1 + p / 64, none⟩ (.int .u64 ((y ||| 2 ^ (p % 64) : Nat) : Int))) b sd (insS S p) := by
  obtain ⟨ws, h1, h2, h3, h4⟩ := h
  have hl : p / 64 < ws.length := by rw [h1.len]; omega
  have hg : ws.getD (p / 64) 0 = ws[p / 64] := by simp [List.getD, List.getElem?_eq_getElem hl]
  refine ⟨ws.getD (p / 64) 0, ?_, frozen_of_row w b _ _ _ h4, ?_, fun k => ⟨_, bits_ins h1 p hp, ?_, h3, ?_⟩⟩
  · rw [cell_of_row w b _ _ _ _ h4, hg]
    simp [cellsF, Nat.add_comm 1, hl]
  · rw [hg]
    exact h1.lt _ (List.getElem_mem hl)
  · refine ⟨nodup_ins h2.1 p, fun x hx => ?_⟩
    rcases (mem_ins S p x).1 hx with h5 | rfl
    · exact h2.2 x h5
    · exact hp
  · rw [heap_setCell_same (w.drewN k) b _ _ _ _ h4, cells_set]
theorem own_fil {β : Type} {B b sd : Nat} (f : β → List Nat) (h : b < B) : OwnFrom B (fun (s : β) V => Fil0 V b sd (f s)) := fun s W W' row hs hg hr =>
  fil_keep hs (hg.block b (fil_lt hs) (fun e => by have := (hr b e.symm).1; omega))
theorem add_snoc (S : List Nat) (sd : Nat) (l : List UInt8) (pre : List Nat) (x : Nat) : addS S ((pre ++ [x]).map (placeN sd l)) = insS (addS S (pre.map (placeN sd l))) (placeN sd l x) := by
  simp [addS]
theorem boxes2a (w : World) (v : Value) (s : ByteArray) : ∃ V, (w.alloc (.cells #[v] 111)).alloc (.cells #[.string s] 9) = V ∧
    Boxed V w.heap.size 111 v ∧ Boxed V (w.heap.size + 1) 9 (.string s) ∧ w.grownBy V none := by
  refine ⟨_, rfl, ?_⟩
  have b0 := Boxed.new w 111 v
  have b1 := Boxed.new (w.alloc (.cells #[v] 111)) 9 (.string s)
  simp only [World.size_alloc] at b1
  exact ⟨b0.alloc _, b1, gr_trans (World.grownBy_alloc _ _ _) (World.grownBy_alloc _ _ _)⟩

set_option maxRecDepth 100000 in
set_option maxHeartbeats 4000000 in
theorem fil_add {w : World} {b sd : Nat} {S : List Nat} (hF : Fil0 w b sd S) (s : ByteArray) (hs : s.size ≤ 140737488351232) : Calls Tryz.prog 90 #[.pointer (some ⟨b, 0, none⟩), .string s] w fun e w' => e = .returned (.bool (hasS S (pls sd s.data.toList))) ∧ Fil0 w' b sd (addS S (pls sd s.data.toList)) ∧ w.grownBy w' (some b) := by
  refine (callsIn_wide (n := 6)).1 ?_
  have hlt := fil_lt hF
  have hg1 := World.grownBy_alloc w (.cells #[.pointer (some ⟨b, 0, none⟩)] 111) none
  have bF := Boxed.new w 111 (.pointer (some ⟨b, 0, none⟩))
  have HH := hide (fil_has (fil_keep hF (hg1.block b hlt (by simp))) s hs)
  have HS : Hid (addS S ((List.range 3).map (placeN sd s.data.toList)) = addS S (pls sd s.data.toList)) := rfl
  generalize hasS S (pls sd s.data.toList) = had at *
  refine callsIn_of_wp_marks Tryz.func90 rfl trivial ?_ rfl
  simp only [Tryz.ntmps90, List.size_toArray, List.length_cons, List.length_nil, Nat.reduceAdd, Nat.reduceSub, Array.replicate_succ, Array.replicate_zero, List.push_toArray, List.append_toArray, List.nil_append, List.cons_append]
  gi_wp2_with (first
    | (refine ⟨trivial, ?_⟩; gi_at_call 125; refine (callsIn_wide.2 HH.out).mono ?_; clear HH; rintro e w2 ⟨rfl, hF2, hg2⟩; have bF2 := bF.kept hg2 (by simp); have hcf2 := bF2.cell)
    | (refine ⟨trivial, ?_⟩; gi_at_call 126; refine (placesMk_in (6 - 1) b s _).mono ?_; rintro e w3 ⟨rfl, rfl⟩))
  obtain ⟨W0, hW0, bf2, bs, hgb⟩ := boxes2a w2 (.pointer (some ⟨b, 0, none⟩)) s
  rw [hW0]
  have hg0 : w.grownBy W0 none := gr_trans (gr_trans hg1 hg2) hgb
  have bf := bF2.kept hgb (by simp)
  have hF0 := fil_keep hF (hg0.block b hlt (by simp))
  have hbf := bf.lt
  have hbB := Nat.lt_of_lt_of_le hlt hg0.size
  have hne : w.heap.size ≠ b := Nat.ne_of_gt hlt
  clear hW0 hg1 hg2 hgb bF bF2 hcf2
  refine range_own rfl (by decide) (gf := 159) (lb := #[.pointer (some ⟨w2.heap.size, 0, none⟩), .pointer (some ⟨w2.heap.size + 1, 0, none⟩)]) rfl trivial (enters_of Tryz.func159 (by kernel_rfl) rfl)
    (places_own _ _ b sd s (Nat.le_trans hs (by decide)) W0 bf2.cell bs.cell (fil_seed hF0)) (Below.refl _ _) (fun _ => rfl)
    (fun pre V => Boxed V w.heap.size 111 (.pointer (some ⟨b, 0, none⟩)) ∧ (Fil0 V b sd (addS S (pre.map (placeN sd s.data.toList))) ∧ w.grownBy V (some b)))
    (fun _ _ _ => False)
    (OwnFrom.and (Own.from (boxed_own _ _ (fun _ => _)) _) (OwnFrom.and (own_fil _ hbB) (own_grown hg0.size)))
    (fun _ _ _ _ _ hs _ _ => hs)
    ⟨bf, hF0, gr_any hg0 _⟩ ?a1 ?assign ?body ?done ?stop
  case assign =>
    intro l2 x V K hK
    unfold plV
    gi_wp2
    exact hK
  case body =>
    rintro l2 pre x V ⟨hbv, hfv, hg⟩ hlen
    have hp := place_lt sd s.data.toList x
    obtain ⟨y, hcy, hfy, hy, hnew⟩ := fil_store hfv (placeN sd s.data.toList x) hp
    have hcf := hbv.cell
    have hB := bit_any (placeN sd s.data.toList x) hp
    have hsn := hide (add_snoc S sd s.data.toList pre x)
    generalize hP : placeN sd s.data.toList x = p at *
    have hm := two_pow_lt (Nat.mod_lt p (show 0 < 64 by decide))
    generalize 2 ^ (p % 64) = m at *
    obtain ⟨hq, hqt, hqw, hq8⟩ := quo_word p hp
    have hix := index_at b _ hq8
    generalize p / 64 = q at *
    have E : Value.int .u64 (bits .or .u64 (y : Int) (m : Int)) = .int .u64 ((y ||| m : Nat) : Int) := by rw [u64_or_nat y m hy hm]
    generalize y ||| m = z at *
    have HC : ∀ k : Nat, CallsIn Fence.wide (4 - 1) Tryz.prog 127 #[.int .i64 p] (V.drewN k) fun e w' => e = .returned (.int .u64 (m : Int)) ∧ w' = V.drewN k := fun k => (callsIn_wide.2 (hB _)).mono fun e w' h => ⟨h.1, h.2.symm⟩
    have hwf : ∀ f, Fence.wide.fn f := fun _ => trivial
    have HN := hide hnew
    clear hB hm hy hq8 hp hlen hnew
    gi_wp2
    refine region_tail 13 _ l2 rfl rfl (by kernel_rfl) (by kernel_rfl) ?_
    simp only [List.take_succ_cons, List.take_zero]
    repeat (gi_big_quiet_step ((gi_at_call 127; exact CallsIn.quiet_of_same (HC _))))
    refine wpQuietIn_nil ?_
    rintro _ ⟨nq, rfl⟩
    go_simp
    gi_wp2
    refine ⟨(since_drewN _ V nq).trans (since_set _ _ hbB), boxed_set hbv hne _, ?_, set_gr hg _⟩
    rw [hsn.out]
    exact HN.out nq
  case done =>
    rintro D ys V hD rfl ⟨hbv, hfv, hg⟩ hK
    rw [HS.out] at hfv
    have hDb : b ≠ D := Nat.ne_of_lt (Nat.lt_of_lt_of_le hbB hD)
    gi_wp2
    refine ⟨by simp, .inl ⟨_, _, rfl, run_takeDeferred hK, ?_⟩⟩
    exact ⟨_, results_tmp rfl _ _ _, rfl, fil_keep hfv (World.putObj_heap_other hDb), gr_new hg (grownBy_putObj' V D (.deferred none)) (Nat.le_trans hg0.size hD)⟩
  case stop =>
    rintro D c pre V _ _ h _
    exact h.elim

/-- The contracts of package bloom. -/
theorem bloom_lib : BloomLib Fil0 where
  lt := fil_lt
  good := fil_good
  keep := fil_keep
  new := fil_new
  add := fil_add
  has := fil_has
  clear := fil_clear
end Go.Proofs.YtkfeafmpaodagaaGreatDoor
