/- What the filter is in memory, and what New, Copy, Clear, Ones and a place's bit come to in package bloom. Conditions: none. The places of a text in package bloom: the sequence that is made, and what it tells, one by one, as long as one goes on: it ranges over hash.Several itself. Conditions: the text takes at most 140737488351232 bytes. A region that draws its order, in the round of a range over a function: all its operations but the last only read (calls among them leave the world as it was, but for draws), and the last one waits for all others: one walk in the order of the text serves every order. Our own, over the library's theorem on regions that only read. Conditions: no guards, no defer. -/
import Derived.Test.YtckjjfkfapfdaaaGreatG24Joined
import Derived.Test.YtckjjfkfapfdaaaGreatG22Joined
import Derived.Laws.Tables
import Derived.Laws.Rows
import Derived.Laws.CopyRow
import Derived.Stop.RegionWithIn
import Derived.Deep.RegionHeld3
import Derived.Sort.BigQuietIn
import Derived.StillTail
import Derived.Test.YtckjjfkfapfdaaaGreatG06Joined
namespace Go.Proofs.YtckjjfkfapfdaaaGreat
open Go.RowKit

/-- The cells of a filter: its seed, and its eight words. -/
def cellsF (sd : Nat) (ws : List Nat) : Array Value := (.int .u64 sd :: ws.map fun x => .int .u64 (x : Nat)).toArray
/-- The filter at block b has this seed and these places set. -/
def Fil0 (w : World) (b sd : Nat) (S : List Nat) : Prop := ∃ ws : List Nat, Bits8 ws S ∧ Good S ∧ sd < 18446744073709551616 ∧ w.heap[b]? = some (.cells (cellsF sd ws) 158 (0, 0))

theorem eight {ws : List Nat} (h : ws.length = 8) : ∃ a b c d e f g k, ws = [a, b, c, d, e, f, g, k] := by
  match ws, h with
  | [a, b, c, d, e, f, g, k], _ => exact ⟨a, b, c, d, e, f, g, k, rfl⟩

theorem i64_and (m : Nat) (M : Int) (hM : M = (2 ^ m : Nat)) (hm : m < 63) (A : Int) (h0 : 0 ≤ A) (hs : A < 9223372036854775808) : bits .and .i64 A (M - 1) = A % M := by
  obtain ⟨a, rfl⟩ := Int.eq_ofNat_of_zero_le h0
  have hp : 2 ^ m < 2 ^ 63 := Nat.pow_lt_pow_right (by decide) hm
  have hp0 : 0 < 2 ^ m := Nat.two_pow_pos m
  have hp63 : (2 : Nat) ^ 63 = 9223372036854775808 := by decide
  have e : M - 1 = ((2 ^ m - 1 : Nat) : Int) := by omega
  have h1 : (BitVec.ofInt 64 (a : Int)).toNat = a := by
    rw [BitVec.ofInt_natCast, BitVec.toNat_ofNat]; exact Nat.mod_eq_of_lt (by omega)
  have h2 : (BitVec.ofInt 64 ((2 ^ m - 1 : Nat) : Int)).toNat = 2 ^ m - 1 := by
    rw [BitVec.ofInt_natCast, BitVec.toNat_ofNat]; exact Nat.mod_eq_of_lt (by omega)
  rw [e]
  show IntKind.i64.wrap ((BitVec.ofInt 64 (a : Int) &&& BitVec.ofInt 64 ((2 ^ m - 1 : Nat) : Int)).toNat : Int) = _
  have h3 := Nat.mod_lt a hp0
  rw [BitVec.toNat_and, h1, h2, Nat.and_two_pow_sub_one_eq_mod, IntKind.wrap_i64, hM]
  omega
set_option maxHeartbeats 1000000 in
theorem new_any (sd : Nat) (w : World) : Calls Tryz.prog 58 #[.int .u64 sd] w fun e w' => e = .returned (.pointer (some ⟨w.heap.size, 0, none⟩)) ∧ w' = w.alloc (.cells (cellsF sd [0, 0, 0, 0, 0, 0, 0, 0]) 158) := by
  go_enter Tryz.func58, Tryz.ntmps58
  go_wp2
  go_ret
  exact ⟨rfl, rfl⟩
set_option maxHeartbeats 1000000 in
theorem bit_any (p : Nat) (h : p < 512) (w : World) : Calls Tryz.prog 108 #[.int .i64 p] w fun e w' => e = .returned (.int .u64 ((2 ^ (p % 64) : Nat) : Int)) ∧ w = w' := by
  have e : IntKind.u64.wrap ((2 : Int) ^ (p % 64)) = ((2 ^ (p % 64) : Nat) : Int) := by
    have h1 := two_pow_lt (show p % 64 < 64 by omega)
    have h2 : (2 : Int) ^ (p % 64) = ((2 ^ (p % 64) : Nat) : Int) := by simp
    obtain ⟨m, hm⟩ : ∃ m, m = 2 ^ (p % 64) := ⟨_, rfl⟩
    rw [IntKind.wrap_u64, h2, ← hm]
    rw [← hm] at h1
    omega
  have E := hide e
  clear e
  go_enter Tryz.func108, Tryz.ntmps108
  go_wp2
  go_ret
  refine ⟨?_, rfl⟩
  rw [← E.out]
  rfl
theorem pairs_le (s c k x : Nat) : pairs s c k x ≤ 2 * mask c k := by
  unfold pairs
  have h1 : x / 2 ^ s &&& mask c k ≤ mask c k := Nat.and_le_right
  have h2 : x &&& mask c k ≤ mask c k := Nat.and_le_right
  omega
theorem halves_le (k x : Nat) : halves k x ≤ mask 15 k := Nat.and_le_right
theorem walk_pairs (s c x : Nat) (M D : Nat) (hM : M = mask c 8) (hD : D = 2 ^ s) (h : x < 18446744073709551616) (h2 : 2 * M < 18446744073709551616) :
    IntKind.u64.wrap (bits .and .u64 ((x : Int) / (D : Int)) (M : Int) + bits .and .u64 (x : Int) (M : Int)) = ((pairs s c 8 x : Nat) : Int) := by
  have e1 : (x : Int) / (D : Int) = ((x / D : Nat) : Int) := by simp
  have l1 : x / D < 18446744073709551616 := Nat.lt_of_le_of_lt (Nat.div_le_self _ _) h
  rw [e1, u64_and_nat _ _ l1 (by omega), u64_and_nat _ _ h (by omega), IntKind.wrap_u64]
  have h3 := pairs_le s c 8 x
  unfold pairs at h3 ⊢
  rw [← hM] at h3
  rw [hD] at *
  rw [← hM]
  omega
theorem sum_le (y D M : Nat) (h : y ≤ M) : y + y / D ≤ 2 * M := by
  have := Nat.div_le_self y D
  omega
theorem walk_sum (y D : Nat) (h : y + y / D < 18446744073709551616) : IntKind.u64.wrap ((y : Int) + (y : Int) / (D : Int)) = ((y + y / D : Nat) : Int) := by
  have e : (y : Int) / (D : Int) = ((y / D : Nat) : Int) := by simp
  rw [IntKind.wrap_u64, e]
  generalize y / D = z at h ⊢
  omega
theorem walk_halves (y : Nat) (m3 : mask 15 8 = 1085102592571150095) (h : y ≤ 2 * 3689348814741910323) : bits .and .u64 (IntKind.u64.wrap ((y : Int) / 16 + (y : Int))) 1085102592571150095 = ((halves 8 y : Nat) : Int) := by
  have f : IntKind.u64.wrap ((y : Int) / 16 + (y : Int)) = ((y / 16 + y : Nat) : Int) := by
    clear m3
    rw [IntKind.wrap_u64]
    omega
  rw [f]
  have := u64_and_nat (y / 16 + y) 1085102592571150095 (by clear f m3; omega) (by decide)
  unfold halves
  rw [m3]
  exact this
theorem walk_last (y p : Nat) (h : y < 9223372036854775808) (hp : y % 128 = p) : wrap64 (y : Int) = (y : Int) ∧ bits .and .i64 (y : Int) 127 = (p : Int) := by
  refine ⟨by unfold wrap64; omega, ?_⟩
  have := i64_and 7 128 rfl (by decide) (y : Int) (by omega) (by omega)
  rw [show (128 : Int) - 1 = 127 from rfl] at this
  rw [this, ← hp]
  omega
theorem clear_run (b sd x0 x1 x2 x3 x4 x5 x6 x7 : Nat) (w : World) (hw : w.heap[b]? = some (.cells (cellsF sd [x0, x1, x2, x3, x4, x5, x6, x7]) 158 (0, 0))) :
    (Builtin.clear_ #[184] 0 #[.slice (some ⟨b, 1, none⟩) 8 8]).run Tryz.prog w = .ok (.tuple #[]) (w.setRow b (cellsF sd [0, 0, 0, 0, 0, 0, 0, 0])) := by
  have hst := run_storeCells_at Tryz.prog b 1 158 [.int .u64 0, .int .u64 0, .int .u64 0, .int .u64 0, .int .u64 0, .int .u64 0, .int .u64 0, .int .u64 0] 0 _ w hw (by simp [cellsF]) (by simp [Value.oneCell'])
  have hst2 : (storeCells ⟨b, 1, none⟩ [.int .u64 0, .int .u64 0, .int .u64 0, .int .u64 0, .int .u64 0, .int .u64 0, .int .u64 0, .int .u64 0] 0).run Tryz.prog w = .ok () (w.setRow b (cellsF sd [0, 0, 0, 0, 0, 0, 0, 0])) := hst
  have hz : (zeroValue 22).run Tryz.prog w = .ok (.int .u64 0) w := by kernel_rfl
  have hc : (Builtin.zeroCells (Value.int .u64 0).cells 8).toList = [.int .u64 0, .int .u64 0, .int .u64 0, .int .u64 0, .int .u64 0, .int .u64 0, .int .u64 0, .int .u64 0] := by kernel_rfl
  simp [Builtin.clear_, run_underlying Tryz.underlying184, hz, hc, hst2, Result.andThen]
theorem grown_setRow (w : World) (b : Nat) (cs : Array Value) : w.grownBy (w.setRow b cs) (some b) :=
  ⟨rfl, rfl, rfl, by simp [World.setRow], fun k _ hk => setRow_other w b k cs (fun e => hk (by rw [e]))⟩
set_option maxHeartbeats 1000000 in
theorem clear_any (b sd x0 x1 x2 x3 x4 x5 x6 x7 : Nat) (w : World) (hw : w.heap[b]? = some (.cells (cellsF sd [x0, x1, x2, x3, x4, x5, x6, x7]) 158 (0, 0))) : Calls Tryz.prog 77 #[.pointer (some ⟨b, 0, none⟩)] w fun e w' => (∃ v, e = .returned v) ∧ w'.heap[b]? = some (.cells (cellsF sd [0, 0, 0, 0, 0, 0, 0, 0]) 158 (0, 0)) ∧ w.grownBy w' (some b) := by
  have h1 := clear_run b sd x0 x1 x2 x3 x4 x5 x6 x7 w hw
  have h2 := setRow_heap w b _ (cellsF sd [0, 0, 0, 0, 0, 0, 0, 0]) _ _ hw
  have h3 := grown_setRow w b (cellsF sd [0, 0, 0, 0, 0, 0, 0, 0])
  clear hw
  go_enter Tryz.func77, Tryz.ntmps77
  go_wp2
  go_end0
  exact ⟨⟨_, rfl⟩, h2, h3⟩
/-- The bits of the first k words. -/
def popTo (ws : List Nat) (k : Nat) : Nat := popAll (ws.take k)
theorem pop_le (n : Nat) : pop n ≤ 64 := by
  have := List.countP_le_length (p := fun k => n.testBit k) (l := List.range 64)
  rwa [List.length_range] at this
theorem popTo_succ (ws : List Nat) (k : Nat) (h : k < ws.length) : popTo ws (k + 1) = popTo ws k + pop (ws.getD k 0) := by
  unfold popTo popAll
  rw [List.take_succ_eq_append_getElem h, List.map_append, List.sum_append]
  simp [List.getD, List.getElem?_eq_getElem h]
theorem popTo_le (ws : List Nat) : ∀ k, k ≤ ws.length → popTo ws k ≤ 64 * k
  | 0, _ => by simp [popTo, popAll]
  | k + 1, h => by
    have h1 := popTo_le ws k (by omega)
    have h2 := pop_le (ws.getD k 0)
    rw [popTo_succ ws k (by omega)]
    omega
theorem index_run (x0 x1 x2 x3 x4 x5 x6 x7 k : Nat) (hk : k < 8) (w : World) : (Instr.index 156 (.agg #[.int .u64 x0, .int .u64 x1, .int .u64 x2, .int .u64 x3, .int .u64 x4, .int .u64 x5, .int .u64 x6, .int .u64 x7]) (.int .i64 (k : Int))).run Tryz.prog w = .ok (.int .u64 (([x0, x1, x2, x3, x4, x5, x6, x7].getD k 0 : Nat) : Int)) w := by
  have h : k = 0 ∨ k = 1 ∨ k = 2 ∨ k = 3 ∨ k = 4 ∨ k = 5 ∨ k = 6 ∨ k = 7 := by omega
  clear hk
  rcases h with rfl | rfl | rfl | rfl | rfl | rfl | rfl | rfl <;> (show _ = _; kernel_rfl)
theorem fil_lt {w : World} {b sd : Nat} {S : List Nat} (h : Fil0 w b sd S) : b < w.heap.size := by
  obtain ⟨_, _, _, _, h⟩ := h
  exact (Array.getElem?_eq_some_iff.1 h).1
theorem fil_good {w : World} {b sd : Nat} {S : List Nat} (h : Fil0 w b sd S) : Good S ∧ sd < 18446744073709551616 := by
  obtain ⟨_, _, h1, h2, _⟩ := h
  exact ⟨h1, h2⟩
theorem fil_keep {w w' : World} {b sd : Nat} {S : List Nat} (h : Fil0 w b sd S) (e : w'.heap[b]? = w.heap[b]?) : Fil0 w' b sd S := by
  obtain ⟨ws, h1, h2, h3, h4⟩ := h
  exact ⟨ws, h1, h2, h3, e.trans h4⟩
theorem fil_new (sd : Nat) (h : sd < 18446744073709551616) (w : World) : Calls Tryz.prog 58 #[.int .u64 sd] w fun e w' => ∃ b, e = .returned (.pointer (some ⟨b, 0, none⟩)) ∧ w.heap.size ≤ b ∧ Fil0 w' b sd [] ∧ w.grownBy w' none := by
  refine (new_any sd w).mono ?_
  rintro e w' ⟨rfl, rfl⟩
  exact ⟨_, rfl, Nat.le_refl _, ⟨_, bits_nil, good_nil, h, heap_alloc_new w _⟩, World.grownBy_alloc w _ none⟩
theorem fil_clear {w : World} {b sd : Nat} {S : List Nat} (h : Fil0 w b sd S) : Calls Tryz.prog 77 #[.pointer (some ⟨b, 0, none⟩)] w fun e w' => (∃ v, e = .returned v) ∧ Fil0 w' b sd [] ∧ w.grownBy w' (some b) := by
  obtain ⟨ws, h1, _, h3, h4⟩ := h
  obtain ⟨x0, x1, x2, x3, x4, x5, x6, x7, rfl⟩ := eight h1.len
  refine (clear_any b sd x0 x1 x2 x3 x4 x5 x6 x7 w h4).mono ?_
  rintro e w' ⟨hv, hc, hg⟩
  exact ⟨hv, ⟨_, bits_nil, good_nil, h3, hc⟩, hg⟩
end Go.Proofs.YtckjjfkfapfdaaaGreat

namespace Go.Proofs.YtckjjfkfapfdaaaGreat
open Go.RowKit Go.Shelf
attribute [local go_sem] Oper.semAt_some

set_option maxHeartbeats 1000000 in
theorem placesMk_in (n b : Nat) (s : ByteArray) (w : World) :
    CallsIn Fence.wide n Tryz.prog 107 #[.pointer (some ⟨b, 0, none⟩), .string s] w fun e w' =>
      e = .returned (.func (.func 133) #[] #[.pointer (some ⟨w.heap.size, 0, none⟩), .pointer (some ⟨w.heap.size + 1, 0, none⟩)]) ∧
      w' = (w.alloc (.cells #[.pointer (some ⟨b, 0, none⟩)] 122)).alloc (.cells #[.string s] 9) := by
  refine callsIn_of_wp Tryz.func107 rfl trivial ?_ rfl
  simp only [Tryz.ntmps107, List.size_toArray, List.length_cons, List.length_nil, Nat.reduceAdd, Nat.reduceSub, Array.replicate_succ, Array.replicate_zero, List.push_toArray, List.append_toArray, List.nil_append, List.cons_append]
  gi_wp2
  go_ret
  exact ⟨rfl, rfl⟩

/-- What is told of the k-th place. -/
def plV (sd : Nat) (l : List UInt8) (k : Nat) : Array Value := #[.int .i64 (placeN sd l k : Nat)]
theorem below_place (sd : Nat) (l : List UInt8) (k : Nat) : belowN (sevN sd l k) 512 = ((placeN sd l k : Nat) : Int) := by
  unfold belowN placeN sevN
  rw [if_neg (by decide)]
  omega



set_option maxRecDepth 100000 in
set_option maxHeartbeats 4000000 in
theorem places1_in (l Bf Bs b sd : Nat) (s : ByteArray) (hs : s.size ≤ 140737488351232) (J Jx : List Nat → World → Prop) (W : World) (hJ : OwnFrom W.heap.size J) (hJx : OwnFrom W.heap.size Jx)
    (hY : ∀ pre x V, J pre V → pre.length < 3 → YieldAt Fence.wide (5 - 1) Tryz.prog l (plV sd s.data.toList x) V fun e V' =>
      Since W.heap.size V V' ∧ ((e = .returned (.bool true) ∧ J (pre ++ [x]) V') ∨ (e = .returned (.bool false) ∧ Jx (pre ++ [x]) V')))
    (cf : W.cell? ⟨Bf, 0, none⟩ = some (.pointer (some ⟨b, 0, none⟩))) (cs : W.cell? ⟨Bs, 0, none⟩ = some (.string s)) (cd : W.cell? ⟨b, 0, none⟩ = some (.int .u64 sd)) (h0 : J [] W) :
    CallsIn Fence.wide 5 Tryz.prog 133 #[.func (.yield l) #[] #[], .pointer (some ⟨Bf, 0, none⟩), .pointer (some ⟨Bs, 0, none⟩)] W fun e W' => (∃ v, e = .returned v) ∧
      ((∃ ys, ys = List.range 3 ∧ J ys W') ∨ (∃ pre, pre <+: List.range 3 ∧ Jx pre W')) := by
  refine callsIn_of_wp_marks Tryz.func133 rfl trivial ?_ rfl
  simp only [Tryz.ntmps133, List.size_toArray, List.length_cons, List.length_nil, Nat.reduceAdd, Nat.reduceSub, Array.replicate_succ, Array.replicate_zero, List.push_toArray, List.append_toArray, List.nil_append, List.cons_append]
  gi_wp2
  obtain ⟨W1, hW1, bg, sz1, _, cl1, own1⟩ := box1 W (.func (.yield l) #[] #[]) 195
  have cf1 := cl1 _ _ cf
  have cs1 := cl1 _ _ cs
  have cd1 := cl1 _ _ cd
  have j1 := own1 hJ h0
  rw [hW1]
  clear hW1 cl1 own1 cf cs cd h0
  refine Code.wpIn_mono (Meets.imp (b := { tmps := #[.func (.yield l) #[] #[], .pointer (some ⟨Bf, 0, none⟩), .pointer (some ⟨Bs, 0, none⟩), .pointer (some ⟨W.heap.size, 0, none⟩), undef, undef, .pointer (some ⟨b, 0, none⟩), .pointer (some ⟨b, 0, none⟩), .pointer (some ⟨b, 0, none⟩), .int .u64 sd, .string s,
      .func (.func 155) #[] #[.pointer (some ⟨W.heap.size + 1 + 1 + 1, 0, none⟩), .pointer (some ⟨W.heap.size + 1, 0, none⟩), .pointer (some ⟨W.heap.size + 1 + 1, 0, none⟩)], undef, undef, undef, undef, undef, undef, undef], defers := [] })
    (v := (((W1.alloc (.cells #[.int .u64 sd] 22)).alloc (.cells #[.string s] 9)).alloc (.cells #[.int .i64 3] 3)).drew) ?rest) ?region
  case region =>
    gi_region_with (refine ⟨trivial, ?_⟩; gi_at_call 134; refine (severalMk_in (5 - 1) sd s 3 _).mono ?_; rintro e w1 ⟨rfl, rfl⟩)
    all_goals exact ⟨rfl, rfl⟩
  obtain ⟨W2, hW2, bd, bs, bm, sz2, bk2, own2⟩ := boxes3 W1 sd s 3
  have bg2 := bk2 bg
  have j2 := own2 hJ j1
  gi_wp2
  rw [hW2]
  clear hW2 bk2 own2 cf1 cs1 cd1 j1 bg
  rw [sz1] at bd bs bm sz2
  refine wpIn_rangeFunc_ownG rfl (by decide) (gf := 155) (lb := #[.pointer (some ⟨W.heap.size + 1 + 1 + 1, 0, none⟩), .pointer (some ⟨W.heap.size + 1, 0, none⟩), .pointer (some ⟨W.heap.size + 1 + 1, 0, none⟩)]) rfl trivial (enters_of Tryz.func155 (by kernel_rfl) rfl)
    (several_stops (5 - 1) (by decide) _ _ _ sd s hs 3 (by decide) W2 (by omega) (by omega) (by omega) bm.cell bd.cell bs.cell) boxesKept_t (boxesKept_b (by omega) (by omega)) (Below.refl _ _) (fun _ => rfl)
    (fun pre V => J pre V ∧ (Boxed V W.heap.size 195 (.func (.yield l) #[] #[]) ∧ (Boxed V (W.heap.size + 1) 22 (.int .u64 sd) ∧ Boxed V (W.heap.size + 1 + 1) 9 (.string s))))
    (fun c pre V => c = .ret ∧ Jx pre V)
    (OwnFrom.and (own_more hJ (by omega)) (OwnFrom.and (Own.from (boxed_own _ _ (fun _ => _)) _) (OwnFrom.and (Own.from (boxed_own _ _ (fun _ => _)) _) (Own.from (boxed_own _ _ (fun _ => _)) _))))
    (fun c => OwnFrom.and (ownFrom_pure _ _) (own_more hJx (by omega)))
    ⟨j2, bg2, bd, bs⟩ ?a1 ?assign ?body ?done ?stop
  case assign =>
    intro l2 x V K hK
    unfold sevV
    gi_wp2
    exact hK
  case body =>
    rintro l2 pre x V ⟨hj, hg, hd, hss⟩ hlt
    have hcg := hg.cell
    obtain ⟨fn, tmps, assign, body, hy, hR⟩ := yield_depth 2 (hY pre x V.drew (own_drew hJ hj) hlt)
    unfold plV at hy
    have E := hide (below_place sd s.data.toList x)
    have hh : sevN sd s.data.toList x < 18446744073709551616 := of_lt _ _
    generalize sevN sd s.data.toList x = h at *
    have hmix : Tryz.prog.follows .mixedOrders = true := by kernel_rfl
    have hR2 := hR.mono (R' := fun e V' => ∃ q : Bool, e = .returned (.bool q) ∧ Hid (Since W.heap.size V.drew V' ∧ ((q = true ∧ J (pre ++ [x]) V') ∨ (q = false ∧ Jx (pre ++ [x]) V')))) (by
      rintro e V' ⟨h1, ⟨rfl, h2⟩ | ⟨rfl, h2⟩⟩
      · exact ⟨true, rfl, h1, .inl ⟨rfl, h2⟩⟩
      · exact ⟨false, rfl, h1, .inr ⟨rfl, h2⟩⟩)
    clear hR hY
    gi_wp2
    gi_region_with_o (first
      | (refine ⟨trivial, ?_⟩; gi_at_call 120; refine (CallsIn.inRound l2 (callsIn_wide.2 (below_any h hh 512 (by decide) (by decide) _))).mono ?_; rintro e w' ⟨rfl, rfl⟩; rw [E.out])
      | (refine hR2.mono ?_; rintro e V' ⟨q, rfl, HQ⟩))
    all_goals
      obtain ⟨hsn, hq⟩ := HQ.out
      have hsv := (Since.drew W.heap.size V).trans hsn
      clear hsn hy hR2 HQ
      rcases hq with ⟨rfl, hj'⟩ | ⟨rfl, hj'⟩
      · gi_wp2
        exact ⟨hsv.keeps (by omega), boxesKept_of hd hss (hsv.boxed (by omega) hd) (hsv.boxed (by omega) hss), hj', hsv.boxed (by omega) hg, hsv.boxed (by omega) hd, hsv.boxed (by omega) hss⟩
      · gi_wp2
        exact ⟨hsv.keeps (by omega), rfl, hj'⟩
  case done =>
    rintro D ys V hD rfl ⟨hj, hg, hd, hss⟩ hK
    gi_wp2
    refine ⟨by simp, .inl ⟨_, _, rfl, run_takeDeferred hK, ?_⟩⟩
    exact ⟨_, results_none rfl _ _ _, ⟨_, rfl⟩, .inl ⟨_, rfl, own_put hJ _ hj (by omega) hK rfl⟩⟩
  case stop =>
    rintro D c pre V hD hpre ⟨rfl, hj⟩ hK
    gi_wp2
    refine ⟨by simp, .inl ⟨_, _, rfl, run_takeDeferred hK, ?_⟩⟩
    exact ⟨_, results_none rfl _ _ _, ⟨_, rfl⟩, .inr ⟨_, hpre, own_put hJx _ hj (by omega) hK rfl⟩⟩

theorem places_own (Bf Bs b sd : Nat) (s : ByteArray) (hs : s.size ≤ 140737488351232) (w : World) (cf : w.cell? ⟨Bf, 0, none⟩ = some (.pointer (some ⟨b, 0, none⟩))) (cs : w.cell? ⟨Bs, 0, none⟩ = some (.string s)) (cd : w.cell? ⟨b, 0, none⟩ = some (.int .u64 sd)) :
    SeqOwn Fence.wide 5 Tryz.prog 133 #[.pointer (some ⟨Bf, 0, none⟩), .pointer (some ⟨Bs, 0, none⟩)] (plV sd s.data.toList) (fun ys => ys = List.range 3) (fun pre => pre <+: List.range 3) 3 w := fun l J Jx W hW hJ hJx hY h0 =>
  places1_in l Bf Bs b sd s hs J Jx W hJ hJx hY ((hW.cell (p := ⟨Bf, 0, none⟩) (block_lt_of_cell cf)).trans cf) ((hW.cell (p := ⟨Bs, 0, none⟩) (block_lt_of_cell cs)).trans cs) ((hW.cell (p := ⟨b, 0, none⟩) (block_lt_of_cell cd)).trans cd) h0
end Go.Proofs.YtckjjfkfapfdaaaGreat

namespace Go.Proofs.YtckjjfkfapfdaaaGreat
open Go.RowKit Go.Shelf

variable {F : Fence} {n : Nat} {P : Program}

/-- An operation that is no defer goes in a round as anywhere. -/
theorem oper_round {o : Oper} {a : Act} {w : World} {K : Act → World → Prop} {Q : Exit → Act → World → Prop} (l : Nat) (hro : F.round = none) (hd : ∀ c, o.op ≠ .defer c) (h : o.wpIn F n P a w K Q) : o.wpIn (F.inRound l) n P a w K Q := by
  unfold Oper.wpIn at h ⊢
  refine ⟨h.1, ?_⟩
  have h2 := h.2
  rw [hro, Oper.semAt_none] at h2
  rw [Fence.inRound_round, Oper.semAt_some l _ _ hd]
  exact h2

theorem push_getD {L : Array Bool} {i : Nat} (d : Bool) (h : i < L.size) : (L.push false).getD i d = L.getD i d := by
  simp [Array.getD, h, Nat.lt_succ_of_lt h, Array.getElem_push_lt h]
theorem push_set {L : Array Bool} {i : Nat} (h : i < L.size) : (L.push false).setIfInBounds i true = (L.setIfInBounds i true).push false := by
  apply Array.ext_getElem?
  intro j
  rw [Array.getElem?_setIfInBounds, Array.getElem?_push, Array.getElem?_push, Array.getElem?_setIfInBounds]
  simp only [Array.size_setIfInBounds, Array.size_push]
  by_cases hij : i = j
  · subst hij
    rw [if_pos rfl, if_pos (by omega), if_neg (by omega), if_pos rfl, if_pos h]
  · rw [if_neg hij, if_neg hij]
theorem getD_two {L : Array Bool} {i : Nat} (h : i < L.size) : L.getD i true = L.getD i false := by
  simp [Array.getD, h]

/-- What is asked of the region's text. -/
structure TailOk (H : Array Oper) (st : Oper) : Prop where
  select : Region.noSelect H = true
  lex : Region.lexFrom .any H H.size 0 (Array.replicate H.size false) = true
  low : ∀ (i : Nat) (o : Oper), H[i]? = some o → ∀ e ∈ o.after, e.on < i
  guard : ∀ (i : Nat) (o : Oper), H[i]? = some o → o.guard = none
  plain : ∀ (i : Nat) (o : Oper), H[i]? = some o → ∀ c, o.op ≠ .defer c
  stLow : ∀ e ∈ st.after, e.on < H.size
  stGuard : st.guard = none
  sink : Region.sinkB .any (H.push st) H.size = true

def isDefer : Op → Bool
  | .defer _ => true
  | _ => false
def tailB (H : Array Oper) (st : Oper) : Bool :=
  Region.noSelect H && Region.lexFrom .any H H.size 0 (Array.replicate H.size false) && ((List.range H.size).all fun i => match H[i]? with
    | some o => (o.after.all fun e => decide (e.on < i)) && o.guard.isNone && !isDefer o.op
    | none => true) && (st.after.all fun e => decide (e.on < H.size)) && st.guard.isNone && Region.sinkB .any (H.push st) H.size
theorem tailOk_of {H : Array Oper} {st : Oper} (h : tailB H st = true) : TailOk H st := by
  simp only [tailB, Bool.and_eq_true] at h
  obtain ⟨⟨⟨⟨⟨h1, h2⟩, h3⟩, h4⟩, h5⟩, h6⟩ := h
  have one : ∀ (i : Nat) (o : Oper), H[i]? = some o → ((o.after.all fun e => decide (e.on < i)) = true ∧ o.guard.isNone = true) ∧ isDefer o.op = false := fun i o ho => by
    have := List.all_eq_true.1 h3 i (List.mem_range.2 (Array.getElem?_eq_some_iff.1 ho).1)
    simp only [ho, Bool.and_eq_true, Bool.not_eq_true'] at this
    exact this
  refine ⟨h1, h2, fun i o ho e he => ?_, fun i o ho => ?_, fun i o ho c hc => ?_, fun e he => ?_, ?_, h6⟩
  · exact of_decide_eq_true (Array.all_eq_true_iff_forall_mem.1 (one i o ho).1.1 e he)
  · exact Option.isNone_iff_eq_none.1 (one i o ho).1.2
  · have := (one i o ho).2
    rw [hc] at this
    cases this
  · exact of_decide_eq_true (Array.all_eq_true_iff_forall_mem.1 h4 e he)
  · exact Option.isNone_iff_eq_none.1 h5

theorem all_listed {H : Array Oper} {L : Array Bool} (hs : L.size = H.size) (low : ∀ (i : Nat) (o : Oper), H[i]? = some o → ∀ e ∈ o.after, e.on < i) (hr : Region.ready .any H L = []) : ∀ i, i < H.size → L.getD i true = true := by
  intro i
  induction i using Nat.strongRecOn with
  | _ i ih =>
    intro hi
    cases hl : L.getD i true with
    | true => rfl
    | false =>
      have : i ∈ Region.ready .any H L := mem_ready.2 ⟨hl, H[i], Array.getElem?_eq_getElem hi, fun e he _ => by
        have h1 := low i _ (Array.getElem?_eq_getElem hi) e he
        rw [← getD_two (by omega)]
        exact ih e.on h1 (by omega)⟩
      rw [hr] at this
      cases this

theorem tail_last {H : Array Oper} {st : Oper} (ok : TailOk H st) (l : Nat) {C : World → Prop} {Qh : Act → Prop} {Q : Exit → Act → World → Prop}
    (hst : ∀ a w, C w → Qh a → st.wpIn (F.inRound l) n P a w (fun a' w' => Q .normal a' w') Q) {L : Array Bool} {a : Act} {w : World} {fuel : Nat} (hs : L.size = H.size) (hC : C w) (hr : Region.ready .any H L = []) (hq : Qh a) : wpAnyIn (F.inRound l) n P .any (H.push st) Q (fuel + 1) (L.push false) a w := by
  have hall := all_listed hs ok.low hr
  have hlast : (L.push false).getD H.size true = false := by
    rw [← hs]
    simp [Array.getD]
  have hstm : (H.push st)[H.size]? = some st := Array.getElem?_push_size
  have hmem : H.size ∈ Region.ready .any (H.push st) (L.push false) := mem_ready.2 ⟨hlast, st, hstm, fun e he _ => by
    have := ok.stLow e he
    rw [push_getD _ (by omega), ← getD_two (by omega)]
    exact hall _ this⟩
  refine ⟨fun h0 => ?_, fun i hi => ?_⟩
  · rw [h0] at hmem
    cases hmem
  · have hi' : i = H.size := by
      obtain ⟨u, o, ho, _⟩ := mem_ready.1 hi
      have h1 := (Array.getElem?_eq_some_iff.1 ho).1
      rw [Array.size_push] at h1
      rcases Nat.lt_or_ge i H.size with h2 | h2
      · rw [push_getD _ (by omega), hall i h2] at u
        cases u
      · omega
    subst hi'
    have hw : ∀ y, Region.wanted st y = true := fun y => by simp [Region.wanted, ok.stGuard]
    unfold wpOpIn
    simp only [hstm, hw, if_true]
    refine Oper.wpIn_mono ?_ (hst a w hC hq)
    intro a' w' hQ
    have hend : Region.ready .any (H.push st) ((L.push false).setIfInBounds H.size true) = [] := by
      apply List.eq_nil_iff_forall_not_mem.2
      intro j hj
      obtain ⟨u, o, ho, _⟩ := mem_ready.1 hj
      have h1 := (Array.getElem?_eq_some_iff.1 ho).1
      rw [Array.size_push] at h1
      by_cases hjm : H.size = j
      · subst hjm
        rw [← hs] at u
        simp [Array.getD] at u
      · rw [getD_set_ne true hjm, push_getD _ (by omega), hall j (by omega)] at u
        cases u
    cases fuel with
    | zero => exact ⟨hend, hQ⟩
    | succ k => exact ⟨fun _ => hQ, fun i hi => by rw [hend] at hi; cases hi⟩

theorem tail_bridge {H : Array Oper} {st : Oper} (ok : TailOk H st) (l : Nat) (hro : F.round = none) {C : World → Prop} {Qh : Act → Prop} {Q : Exit → Act → World → Prop}
    (hst : ∀ a w, C w → Qh a → st.wpIn (F.inRound l) n P a w (fun a' w' => Q .normal a' w') Q) :
    ∀ (fuel : Nat) (L : Array Bool) (a : Act) (w : World), L.size = H.size → HeadInv .any (H.push st) H.size (L.push false) → C w → wpAnyQIn F n P .any H C Qh fuel L a →
      wpAnyIn (F.inRound l) n P .any (H.push st) Q (fuel + 1) (L.push false) a w := by
  intro fuel
  induction fuel with
  | zero =>
    intro L a w hs inv hC h
    exact tail_last ok l hst hs hC h.1 h.2
  | succ fuel ih =>
    intro L a w hs inv hC h
    by_cases hr : Region.ready .any H L = []
    · exact tail_last ok l hst hs hC hr (h.1 hr)
    · obtain ⟨i0, hi0⟩ := List.exists_mem_of_ne_nil _ hr
      obtain ⟨u0, o0, ho0, _⟩ := mem_ready.1 hi0
      have lt0 : i0 < H.size := (Array.getElem?_eq_some_iff.1 ho0).1
      have hno := tail_waits ok.sink (by simp [Region.chainB]; omega) (by simp) inv _ i0 rfl lt0 (by rw [push_getD _ (by omega)]; exact u0)
      refine ⟨fun h0 => ?_, fun i hi => ?_⟩
      · have : i0 ∈ Region.ready .any (H.push st) (L.push false) := by
          obtain ⟨_, o, ho, hall⟩ := mem_ready.1 hi0
          refine mem_ready.2 ⟨by rw [push_getD _ (by omega)]; exact u0, o, by rw [Array.getElem?_push_lt lt0]; rw [Array.getElem?_eq_getElem lt0] at ho; exact ho, fun e he hb => ?_⟩
          have hlo := ok.low i0 o ho e he
          rw [push_getD _ (by omega)]
          exact hall e he hb
        rw [h0] at this
        cases this
      · have hlt : i < H.size := by
          rcases Nat.lt_or_ge i H.size with h1 | h1
          · exact h1
          · exact (hno i h1 hi).elim
        have hiH : i ∈ Region.ready .any H L := by
          obtain ⟨u, o, ho, hall⟩ := mem_ready.1 hi
          rw [push_getD _ (by omega)] at u
          rw [Array.getElem?_push_lt hlt] at ho
          have ho' : H[i]? = some o := by rw [Array.getElem?_eq_getElem hlt]; exact ho
          refine mem_ready.2 ⟨u, o, ho', fun e he hb => ?_⟩
          have := hall e he hb
          have hlo := ok.low i o ho' e he
          rwa [push_getD _ (by omega)] at this
        have hq := h.2 i hiH
        have inv' := inv.set hi hlt
        rw [push_set (by omega)] at inv'
        have ho' : H[i]? = some H[i] := Array.getElem?_eq_getElem hlt
        have hog : (H.push st)[i]? = some H[i] := Array.getElem?_push_lt hlt
        have hg : H[i].guard = none := ok.guard i _ ho'
        have hw : ∀ y, Region.wanted H[i] y = true := fun y => by simp [Region.wanted, hg]
        unfold qOpIn at hq
        simp only [ho', hw, if_true] at hq
        unfold wpOpIn
        simp only [hog, hw, if_true]
        refine oper_round l hro (ok.plain i _ ho') (Oper.wpIn_of_quiet hro hC ?_ hq.1 hq.2)
        intro a' w' hC' hk
        rw [push_set (by omega)]
        exact ih _ a' w' (by simp [hs]) inv' hC' hk
/-- One walk in the order of the text, and the last operation behind it. -/
theorem region_tail {id : Nat} {Q : Exit → Act → World → Prop} {a : Act} {w : World} {ops : List Oper} (m : Nat) (st : Oper) (l : Nat) (hst : ops = ops.take m ++ [st]) (hro : F.round = none) (hm : P.follows .mixedOrders = true) (hB : tailB (ops.take m).toArray st = true)
    (h : wpQuietIn F n P (ops.take m).toArray (fun w' => ∃ k, w' = w.drewN k) (fun a' => ∀ w', (∃ k, w' = w.drewN k) → st.wpIn (F.inRound l) n P a' w' (fun a'' w'' => Q .normal a'' w'') Q) (ops.take m) a) :
    (Code.region id ops.toArray true).wpIn (F.inRound l) n P Q a w := by
  have ok := tailOk_of hB
  generalize ops.take m = hd at *
  subst hst
  have e : (hd ++ [st]).toArray = hd.toArray.push st := by simp
  have e2 : (hd.toArray.push st).size = hd.length + 1 := by simp
  have e3 : Array.replicate (hd.length + 1) false = (Array.replicate hd.length false).push false := Array.replicate_succ
  rw [e]
  refine wpIn_region_any hm ?_
  rw [e2, e3]
  refine tail_bridge ok l hro (C := fun w' => ∃ k, w' = w.drewN k) (Qh := fun a' => ∀ w', (∃ k, w' = w.drewN k) → st.wpIn (F.inRound l) n P a' w' (fun a'' w'' => Q .normal a'' w'') Q) (fun a w hC hq => hq w hC) hd.length _ a _ (by simp) ?_ ⟨1, rfl⟩ ?_
  · refine ⟨by simp, fun j oj _ hl => ?_, fun t ht ht' => ?_⟩
    · rw [← e3, getD_replicate_false] at hl
      cases hl
    · have : t = hd.length := by
        simp at ht ht'
        omega
      subst this
      rw [← e3]
      simp [Array.getD]
  · have := wpAnyQIn_lex (F := F) (n := n) (P := P) (C := fun w' => ∃ k, w' = w.drewN k) (md := .any) ok.select hd 0 (Array.replicate hd.length false) a (by simp) (by simpa using ok.lex) h
    exact this
end Go.Proofs.YtckjjfkfapfdaaaGreat
