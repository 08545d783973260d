/- The contracts of package sketch, over a word 'Sk' that says what a sketch in memory has counted. Nothing of the program is walked here. Conditions: none. What the sketch is in memory, two counters in a byte, and what New, Copy, Age, shift and counter come to in package sketch. Conditions: none. What counter and halve come to in package sketch. Conditions: none. -/
import Derived.Test.YtkfeafmpaodagaaGreatDoorG00Joined
import Derived.Test.YtkfeafmpaodagaaGreatDoorG03Joined
import Derived.Laws.Tables
import Derived.Laws.Rows
import Derived.Laws.CopyRow
import Derived.Deep.MidRow
import Derived.Deep.WholeRow
import Derived.BigQuiet
import Derived.RangeFuncSeq
namespace Go.Proofs.YtkfeafmpaodagaaGreatDoor
open Go.RowKit

/-- The contracts of package sketch. -/
structure SketchLib (Sk : World → Nat → Nat → St → Prop) : Prop where
  lt : ∀ {w b sd st}, Sk w b sd st → b < w.heap.size
  good : ∀ {w b sd st}, Sk w b sd st → GoodK st ∧ sd < 18446744073709551616
  keep : ∀ {w w' b sd st}, Sk w b sd st → w'.heap[b]? = w.heap[b]? → Sk w' b sd st
  new : ∀ (sd : Nat), sd < 18446744073709551616 → ∀ w : World, Calls Tryz.prog 50 #[.int .u64 sd] w fun e w' => ∃ b, e = .returned (.pointer (some ⟨b, 0, none⟩)) ∧ w.heap.size ≤ b ∧ Sk w' b sd fresh ∧ w.grownBy w' none
  add : ∀ {w b sd st}, Sk w b sd st → ∀ s : ByteArray, s.size ≤ 140737488351232 → Calls Tryz.prog 91 #[.pointer (some ⟨b, 0, none⟩), .string s] w fun e w' => e = .returned (.bool (halved st)) ∧ Sk w' b sd (addK sd st s.data.toList) ∧ w.grownBy w' (some b)
  count : ∀ {w b sd st}, Sk w b sd st → ∀ s : ByteArray, s.size ≤ 140737488351232 → Calls Tryz.prog 228 #[.pointer (some ⟨b, 0, none⟩), .string s] w fun e w' => e = .returned (.int .i64 (cnt st.1 (plcs sd s.data.toList))) ∧ Sk w' b sd st ∧ w.grownBy w' none

variable {Sk : World → Nat → Nat → St → Prop}
theorem SketchLib.kept (L : SketchLib Sk) {w w' : World} {b sd : Nat} {st : St} {row : Option Nat} (h : Sk w b sd st) (hg : w.grownBy w' row) (hr : row ≠ some b) : Sk w' b sd st := L.keep h (hg.block b (L.lt h) (fun e => hr e.symm))
end Go.Proofs.YtkfeafmpaodagaaGreatDoor

namespace Go.Proofs.YtkfeafmpaodagaaGreatDoor
open Go.RowKit

/-- Two counters in a byte, and all bytes. -/
def pk (C : List Nat) (j : Nat) : Nat := C.getD (2 * j) 0 + 16 * C.getD (2 * j + 1) 0
def pack (C : List Nat) : List Nat := (List.range 128).map (pk C)
theorem pack_len (C : List Nat) : (pack C).length = 128 := by simp [pack]
theorem pack_get (C : List Nat) (j : Nat) (h : j < 128) : (pack C)[j]? = some (pk C j) := by
  simp [pack, List.getElem?_map, List.getElem?_range h]
theorem pack_getD (C : List Nat) (j : Nat) (h : j < 128) : (pack C).getD j 0 = pk C j := by
  simp only [List.getD, pack_get C j h, Option.getD_some]
theorem pk_lt {C : List Nat} (h : ∀ c ∈ C, c ≤ 15) (j : Nat) : pk C j < 256 := by
  have h1 := get_le h (2 * j)
  have h2 := get_le h (2 * j + 1)
  unfold pk
  omega
theorem pack_ext {C : List Nat} {l : List Nat} (hl : l.length = 128) (h : ∀ j, j < 128 → l.getD j 0 = pk C j) : l = pack C := by
  apply List.ext_getElem?
  intro j
  by_cases hj : j < 128
  · rw [pack_get C j hj, ← h j hj]
    simp [List.getD, List.getElem?_eq_getElem (show j < l.length by omega)]
  · rw [List.getElem?_eq_none (by omega), List.getElem?_eq_none (by rw [pack_len]; omega)]
theorem getD_set_eq (l : List Nat) (i j x : Nat) (h : i < l.length) : (l.set i x).getD j 0 = if i = j then x else l.getD j 0 := by
  simp only [List.getD, List.getElem?_set]
  by_cases e : i = j
  · subst e
    simp [h]
  · simp [e]
/-- One counter more, in its byte. -/
theorem pack_inc {C : List Nat} (hl : C.length = 256) (g : Nat) (hg : g < 256) (h : C.getD g 0 < 15) : pack (inc C g) = (pack C).set (g / 2) (pk C (g / 2) + (if g % 2 = 0 then 1 else 16)) := by
  symm
  apply pack_ext (by rw [List.length_set, pack_len])
  intro j hj
  rw [getD_set_eq _ _ _ _ (by rw [pack_len]; omega), pack_getD C j hj]
  unfold inc pk
  rw [if_pos h, getD_set_eq _ _ _ _ (by omega), getD_set_eq _ _ _ _ (by omega)]
  by_cases e : g / 2 = j
  · subst e
    rw [if_pos rfl]
    have h2 := Nat.mod_two_eq_zero_or_one g
    rcases h2 with h2 | h2
    · have e1 : 2 * (g / 2) = g := by omega
      rw [if_pos h2, e1, if_pos rfl, if_neg (by omega)]
      omega
    · have e1 : 2 * (g / 2) + 1 = g := by omega
      rw [if_neg (by omega), e1, if_neg (by omega), if_pos rfl]
      omega
  · rw [if_neg e, if_neg (by omega), if_neg (by omega)]
theorem pack_same {C : List Nat} (g : Nat) (h : ¬ C.getD g 0 < 15) : inc C g = C := by
  unfold inc
  rw [if_neg h]

/-- The cells of a sketch: its seed, its age, and its bytes. -/
def cellsK (sd age : Nat) (bs : List Nat) : Array Value := (.int .u64 sd :: .int .i64 age :: bs.map fun x => .int .u8 (x : Nat)).toArray
def Blk (w : World) (b sd age : Nat) (bs : List Nat) : Prop := w.heap[b]? = some (.cells (cellsK sd age bs) 161 (0, 0))
/-- The sketch at block b has this seed, these counters and this age. -/
def Sk0 (w : World) (b sd : Nat) (st : St) : Prop := GoodK st ∧ sd < 18446744073709551616 ∧ Blk w b sd st.2 (pack st.1)

theorem blk_lt {w : World} {b sd age : Nat} {bs : List Nat} (h : Blk w b sd age bs) : b < w.heap.size := (Array.getElem?_eq_some_iff.1 h).1
theorem blk_keep {w w' : World} {b sd age : Nat} {bs : List Nat} (h : Blk w b sd age bs) (e : w'.heap[b]? = w.heap[b]?) : Blk w' b sd age bs := e.trans h
theorem blk_seed {w : World} {b sd age : Nat} {bs : List Nat} (h : Blk w b sd age bs) : w.cell? ⟨b, 0, none⟩ = some (.int .u64 sd) := by
  rw [cell_of_row w b _ _ _ _ h]
  rfl
theorem blk_age {w : World} {b sd age : Nat} {bs : List Nat} (h : Blk w b sd age bs) : w.cell? ⟨b, 1, none⟩ = some (.int .i64 age) := by
  rw [cell_of_row w b _ _ _ _ h]
  rfl
theorem blk_at {w : World} {b sd age : Nat} {bs : List Nat} (h : Blk w b sd age bs) (j : Nat) (hj : j < bs.length) : w.cell? ⟨b, 2 + j, none⟩ = some (.int .u8 (bs.getD j 0 : Nat)) := by
  rw [cell_of_row w b _ _ _ _ h]
  simp [cellsK, Nat.add_comm 2, hj, List.getD]
theorem blk_free {w : World} {b sd age : Nat} {bs : List Nat} (h : Blk w b sd age bs) (j : Nat) : w.frozen? ⟨b, j, none⟩ = false := frozen_of_row w b _ _ _ h
theorem blk_set {w : World} {b sd age : Nat} {bs : List Nat} (h : Blk w b sd age bs) (j y : Nat) : Blk (w.setCell ⟨b, 2 + j, none⟩ (.int .u8 (y : Nat))) b sd age (bs.set j y) := by
  unfold Blk
  rw [heap_setCell_same w b _ _ _ _ h]
  unfold cellsK
  rw [List.setIfInBounds_toArray, Nat.add_comm, List.set_cons_succ, List.set_cons_succ, List.map_set]
theorem blk_setAge {w : World} {b sd age : Nat} {bs : List Nat} (h : Blk w b sd age bs) (y : Nat) : Blk (w.setCell ⟨b, 1, none⟩ (.int .i64 (y : Nat))) b sd y bs := by
  unfold Blk
  rw [heap_setCell_same w b _ _ _ _ h]
  unfold cellsK
  rw [List.setIfInBounds_toArray, List.set_cons_succ, List.set_cons_zero]

theorem sk_lt {w : World} {b sd : Nat} {st : St} (h : Sk0 w b sd st) : b < w.heap.size := blk_lt h.2.2
theorem sk_good {w : World} {b sd : Nat} {st : St} (h : Sk0 w b sd st) : GoodK st ∧ sd < 18446744073709551616 := ⟨h.1, h.2.1⟩
theorem sk_keep {w w' : World} {b sd : Nat} {st : St} (h : Sk0 w b sd st) (e : w'.heap[b]? = w.heap[b]?) : Sk0 w' b sd st := ⟨h.1, h.2.1, blk_keep h.2.2 e⟩

theorem zeroK (w : World) : (zeroValue 161).run Tryz.prog w = .ok (.agg (cellsK 0 0 (pack (List.replicate 256 0)))) w := (zero_of_info (n := 130) (by kernel_rfl)).1 w
theorem cellsK_seed (x y age : Nat) (bs : List Nat) : (cellsK x age bs).setIfInBounds 0 (.int .u64 (y : Nat)) = cellsK y age bs := by
  unfold cellsK
  rw [List.setIfInBounds_toArray, List.set_cons_zero]
theorem cellsK_size (x age : Nat) (bs : List Nat) : (cellsK x age bs).size = bs.length + 2 := by simp [cellsK]
theorem cellsK_ne (x age : Nat) (bs : List Nat) : (cellsK x age bs = #[]) = False := by
  simp [cellsK]
set_option maxHeartbeats 1000000 in
theorem sketchNew_any (sd : Nat) (w : World) : Calls Tryz.prog 50 #[.int .u64 sd] w fun e w' => e = .returned (.pointer (some ⟨w.heap.size, 0, none⟩)) ∧ w' = w.alloc (.cells (cellsK sd 0 (pack (List.replicate 256 0))) 161) := by
  have hz := zeroK
  have hs := cellsK_seed 0 sd 0 (pack (List.replicate 256 0))
  have hn := cellsK_ne 0 0 (pack (List.replicate 256 0))
  generalize cellsK 0 0 (pack (List.replicate 256 0)) = Z at *
  generalize cellsK sd 0 (pack (List.replicate 256 0)) = Y at *
  go_enter Tryz.func50, Tryz.ntmps50
  go_wp2
  go_ret
  exact ⟨rfl, rfl⟩
set_option maxHeartbeats 1000000 in
theorem shift_any (p : Nat) (h : p < 64) (w : World) : Calls Tryz.prog 130 #[.int .i64 p] w fun e w' => e = .returned (.int .i64 ((p % 2 * 4 : Nat) : Int)) ∧ w = w' := by
  have h1 : (p : Int).tmod 2 = ((p % 2 : Nat) : Int) := by rw [Int.tmod_eq_emod_of_nonneg (by omega)]; omega
  have h2 : (p : Int) % 2 = ((p % 2 : Nat) : Int) := by omega
  have h3 := Nat.mod_lt p (show 0 < 2 by decide)
  generalize p % 2 = m at *
  clear h
  go_enter Tryz.func130, Tryz.ntmps130
  go_wp2
  go_ret
  exact ⟨by rw [Int.natCast_mul]; rfl, rfl⟩
/-- A whole value into the block that was made last. -/
theorem wpList_store_new {P : Program} {ops : Array Oper} {rest : List Oper} {op : Oper} {a : Act} {w : World} {Q : Exit → Act → World → Prop} (hgd : op.guard = none) (ty : TypeId) (x y : Operand) (ho : op.op = .store ty x y)
    (w0 : World) (c c' : Array Value) (hw : w = w0.alloc (.cells c ty)) (hx : a.eval x = .pointer (some ⟨w0.heap.size, 0, none⟩)) (hy : a.eval y = .agg c')
    (hi : (P.info? ty).map (·.size) = some c'.size) (hc : c.size = c'.size) (h1 : c'.all (·.oneCell') = true)
    (h : wpList P ops Q rest (a.put op.dst undef) (w0.alloc (.cells c' ty))) : wpList P ops Q (op :: rest) a w := by
  refine wpList_plain hgd fun K hK => ?_
  subst hw
  unfold Oper.wp execOp
  simp only [ho, hx, hy, Instr.storeAt, Instr.sureAddr, Sem.run_bind, Sem.run_pure, Result.andThen_ok, run_storeVar_new w0 ty c c' hi hc h1]
  exact hK _ _ h
end Go.Proofs.YtkfeafmpaodagaaGreatDoor

namespace Go.Proofs.YtkfeafmpaodagaaGreatDoor
open Go.RowKit

/-- The address of a row, and of a byte in it. -/
theorem row_at (b r : Nat) (h : r < 4) (W : World) : (Instr.indexAt 159 (.pointer (some ⟨b, 2, none⟩)) (.int .i64 (r : Int))).run Tryz.prog W = .ok (.pointer (some ⟨b, 2 + 32 * r, none⟩)) W := by
  have h8 : r = 0 ∨ r = 1 ∨ r = 2 ∨ r = 3 := by omega
  clear h
  rcases h8 with rfl | rfl | rfl | rfl <;> (show _ = _; kernel_rfl)
theorem byte_at (b o c : Nat) (h : c < 32) (W : World) : (Instr.indexAt 158 (.pointer (some ⟨b, o, none⟩)) (.int .i64 (c : Int))).run Tryz.prog W = .ok (.pointer (some ⟨b, o + c, none⟩)) W := by
  have h8 : c = 0 ∨ c = 1 ∨ c = 2 ∨ c = 3 ∨ c = 4 ∨ c = 5 ∨ c = 6 ∨ c = 7 ∨ c = 8 ∨ c = 9 ∨ c = 10 ∨ c = 11 ∨ c = 12 ∨ c = 13 ∨ c = 14 ∨ c = 15 ∨ c = 16 ∨ c = 17 ∨ c = 18 ∨ c = 19 ∨ c = 20 ∨ c = 21 ∨ c = 22 ∨ c = 23 ∨ c = 24 ∨ c = 25 ∨ c = 26 ∨ c = 27 ∨ c = 28 ∨ c = 29 ∨ c = 30 ∨ c = 31 := by omega
  clear h
  rcases h8 with rfl | rfl | rfl | rfl | rfl | rfl | rfl | rfl | rfl | rfl | rfl | rfl | rfl | rfl | rfl | rfl | rfl | rfl | rfl | rfl | rfl | rfl | rfl | rfl | rfl | rfl | rfl | rfl | rfl | rfl | rfl | rfl <;> (show _ = _; kernel_rfl)
theorem wrapK_nat (n : Nat) (h : n < 9223372036854775808) : IntKind.i64.wrap (n : Int) = (n : Int) := by
  simp [IntKind.wrap, IntKind.bits, IntKind.signed]
  omega
theorem quo_half (p : Nat) (h : p < 64) : ((p : Int) / 2) = ((p / 2 : Nat) : Int) ∧ (p : Int).tdiv 2 = ((p / 2 : Nat) : Int) ∧ Value.int .i64 (IntKind.i64.wrap ((p / 2 : Nat) : Int)) = .int .i64 ((p / 2 : Nat) : Int) ∧ p / 2 < 32 := by
  have h1 : ((p : Int) / 2) = ((p / 2 : Nat) : Int) := by omega
  have h2 : p / 2 < 32 := by omega
  refine ⟨h1, by rw [Int.tdiv_eq_ediv_of_nonneg (by omega)]; exact h1, by rw [wrapK_nat _ (Nat.lt_trans h2 (by decide))], h2⟩

set_option maxRecDepth 100000 in
set_option maxHeartbeats 1000000 in
theorem counter_any {w : World} {b sd age : Nat} {bs : List Nat} (hl : bs.length = 128) (h : Blk w b sd age bs) (r p : Nat) (hr : r < 4) (hp : p < 64) (hb : bs.getD (32 * r + p / 2) 0 < 256) :
    Calls Tryz.prog 129 #[.pointer (some ⟨b, 0, none⟩), .int .i64 r, .int .i64 p] w fun e w' => e = .returned (.int .i64 ((bs.getD (32 * r + p / 2) 0 / (if p % 2 = 0 then 1 else 16) % 16 : Nat) : Int)) ∧ ∃ m, w' = w.drewN m := by
  have hc := blk_at h (32 * r + p / 2) (by omega)
  rw [← Nat.add_assoc] at hc
  generalize bs.getD (32 * r + p / 2) 0 = y at *
  have HS := shift_any p hp
  obtain ⟨hq, hqt, hqw, hq8⟩ := quo_half p hp
  have h1 := row_at b r hr
  have h2 := byte_at b (2 + 32 * r) _ hq8
  generalize p / 2 = c at *
  have hm := Nat.mod_lt p (show 0 < 2 by decide)
  generalize p % 2 = m at *
  clear h hp hq8 hl hr
  obtain rfl | rfl : m = 0 ∨ m = 1 := by omega
  · clear hm
    go_enter Tryz.func129, Tryz.ntmps129
    go_wp2
    go_quiet ((go_at_call 130; refine Calls.quiet_of_same ((HS _).mono fun e w' h => ⟨h.1, h.2.symm⟩)))
    go_wp2
    go_ret
    exact ⟨rfl, nq, rfl⟩
  · clear hm
    go_enter Tryz.func129, Tryz.ntmps129
    go_wp2
    go_quiet ((go_at_call 130; refine Calls.quiet_of_same ((HS _).mono fun e w' h => ⟨h.1, h.2.symm⟩)))
    go_wp2
    go_ret
    exact ⟨rfl, nq, rfl⟩
/-- The counter that a byte holds. -/
theorem nibble {C : List Nat} (hC : ∀ c ∈ C, c ≤ 15) (r p : Nat) : pk C (32 * r + p / 2) / (if p % 2 = 0 then 1 else 16) % 16 = C.getD (r * 64 + p) 0 := by
  have h1 := get_le hC (2 * (32 * r + p / 2))
  have h2 := get_le hC (2 * (32 * r + p / 2) + 1)
  unfold pk
  rcases Nat.mod_two_eq_zero_or_one p with h | h
  · have e : r * 64 + p = 2 * (32 * r + p / 2) := by omega
    rw [if_pos h, e]
    omega
  · have e : r * 64 + p = 2 * (32 * r + p / 2) + 1 := by omega
    rw [if_neg (by omega), e]
    omega
theorem sk_counter {w : World} {b sd : Nat} {st : St} (h : Sk0 w b sd st) (r p : Nat) (hr : r < 4) (hp : p < 64) :
    Calls Tryz.prog 129 #[.pointer (some ⟨b, 0, none⟩), .int .i64 r, .int .i64 p] w fun e w' => e = .returned (.int .i64 ((st.1.getD (r * 64 + p) 0 : Nat) : Int)) ∧ ∃ m, w' = w.drewN m := by
  have hj : 32 * r + p / 2 < 128 := by omega
  have := counter_any (pack_len st.1) h.2.2 r p hr hp (by rw [pack_getD _ _ hj]; exact pk_lt h.1.le _)
  rwa [pack_getD _ _ hj, nibble h.1.le] at this

/-- Bytes of which the first k are halved. -/
def halfB (x : Nat) : Nat := x / 2 &&& 119
def halfBs (bs : List Nat) (k : Nat) : List Nat := (bs.take k).map halfB ++ bs.drop k
theorem half_pk (x y : Nat) (hx : x ≤ 15) (hy : y ≤ 15) : halfB (x + 16 * y) = x / 2 + 16 * (y / 2) := by
  have : ∀ x, x < 16 → ∀ y, y < 16 → halfB (x + 16 * y) = x / 2 + 16 * (y / 2) := by decide
  exact this x (by omega) y (by omega)
theorem pack_half {C : List Nat} (hC : ∀ c ∈ C, c ≤ 15) : (pack C).map halfB = pack (C.map (· / 2)) := by
  unfold pack
  rw [List.map_map]
  apply List.map_congr_left
  intro j _
  show halfB (pk C j) = _
  unfold pk
  rw [half_pk _ _ (get_le hC _) (get_le hC _), half_get, half_get]
theorem halfBs_len (bs : List Nat) (k : Nat) : (halfBs bs k).length = bs.length := by simp [halfBs]; omega
theorem halfBs_zero (bs : List Nat) : halfBs bs 0 = bs := by simp [halfBs]
theorem halfBs_all (bs : List Nat) (k : Nat) (h : bs.length ≤ k) : halfBs bs k = bs.map halfB := by
  simp [halfBs, List.take_of_length_le h, List.drop_of_length_le h]
theorem halfBs_step (bs : List Nat) (k : Nat) (h : k < bs.length) : (halfBs bs k).set k (halfB (bs.getD k 0)) = halfBs bs (k + 1) := by
  unfold halfBs
  have h1 : ((bs.take k).map halfB).length = k := by simp; omega
  rw [List.set_append_right _ _ (by omega), h1, Nat.sub_self, List.drop_eq_getElem_cons h, List.set_cons_zero, List.take_succ_eq_append_getElem h, List.map_append, List.append_assoc]
  simp [List.getD, List.getElem?_eq_getElem h]
theorem halfBs_get (bs : List Nat) (k j : Nat) (h : k ≤ j) (hj : j < bs.length) : (halfBs bs k)[j]? = bs[j]? := by
  unfold halfBs
  rw [List.getElem?_append_right (by simp; omega)]
  simp only [List.length_map, List.length_take, List.getElem?_drop]
  congr 1
  omega

/-- A byte out of a row that was read. -/
theorem index_val (cs : Array Value) (i : Nat) (v : Value) (hi : i < 32) (hv : cs[i]? = some v) (W : World) : (Instr.index 158 (.agg cs) (.int .i64 (i : Int))).run Tryz.prog W = .ok v W := by
  have hb : (0 : Int) ≤ (i : Int) ∧ (i : Int) < 32 := by omega
  have ha : (isAgg 5).run Tryz.prog W = .ok false W := by kernel_rfl
  have hs : (sizeOf 5).run Tryz.prog W = .ok 1 W := by kernel_rfl
  simp [Instr.index, run_underlying Tryz.underlying158, asIntOf, hb, part, ha, hs, hv, Result.andThen]
  intro h32
  exact (Nat.not_lt_of_le h32 hi).elim
/-- A row's bytes, as values. -/
def rowV (bs : List Nat) (r : Nat) : List Value := ((bs.drop (32 * r)).take 32).map fun x => .int .u8 (x : Nat)
theorem rowV_len {bs : List Nat} (hl : bs.length = 128) (r : Nat) (hr : r < 4) : (rowV bs r).length = 32 := by
  simp [rowV]
  omega
theorem rowV_get {bs : List Nat} (hl : bs.length = 128) (r i : Nat) (hr : r < 4) (hi : i < 32) : (rowV bs r).toArray[i]? = some (.int .u8 (bs.getD (32 * r + i) 0 : Nat)) := by
  have h : 32 * r + i < bs.length := by omega
  simp [rowV, hi, List.getElem?_drop, List.getElem?_eq_getElem h, List.getD]
theorem rowV_range {w : World} {b sd age : Nat} {bs : List Nat} (r : Nat) (hl : bs.length = 128) (hr : r < 4) (h : Blk w b sd age (halfBs bs (32 * r))) : w.rangeAt b (2 + 32 * r) (rowV bs r) := fun j v hv => by
  have hj : j < 32 := by
    have := (List.getElem?_eq_some_iff.1 hv).1
    rwa [rowV_len hl r hr] at this
  have h1 := blk_at h (32 * r + j) (by rw [halfBs_len]; omega)
  have h2 : (halfBs bs (32 * r)).getD (32 * r + j) 0 = bs.getD (32 * r + j) 0 := by
    simp only [List.getD, halfBs_get bs (32 * r) (32 * r + j) (by omega) (by omega)]
  have h3 := rowV_get hl r j hr hj
  rw [List.getElem?_toArray, hv] at h3
  rw [h3, ← h2, Nat.add_assoc]
  exact h1
theorem half_byte (x : Nat) (h : x < 256) : bits .and .u8 ((x : Int) / 2) 119 = ((halfB x : Nat) : Int) := by
  have : ∀ x : Nat, x < 256 → bits .and .u8 ((x : Int) / 2) 119 = ((halfB x : Nat) : Int) := by decide +kernel
  exact this x h
theorem getD_lt256 {bs : List Nat} (h : ∀ x ∈ bs, x < 256) (j : Nat) : bs.getD j 0 < 256 := by
  by_cases hq : j < bs.length
  · simp only [List.getD, List.getElem?_eq_getElem hq, Option.getD_some]
    exact h _ (List.getElem_mem hq)
  · simp [List.getD, List.getElem?_eq_none (Nat.le_of_not_lt hq)]
theorem set_grown {w V : World} {b o : Nat} (h : w.grownBy V (some b)) (v : Value) : w.grownBy (V.setCell ⟨b, o, none⟩ v) (some b) :=
  ⟨h.1, h.2, h.3, Nat.le_trans h.4 (KeepsWalks.setCell V _ v).size, fun i hi hb => (Below.heap_setCell _ _ _ i (fun e => hb (by rw [e]))).trans (h.5 i hi hb)⟩

set_option maxRecDepth 100000 in
set_option maxHeartbeats 1000000 in
theorem halve_any {w : World} {b sd age : Nat} {bs : List Nat} (hl : bs.length = 128) (hx : ∀ x ∈ bs, x < 256) (h : Blk w b sd age bs) :
    Calls Tryz.prog 131 #[.pointer (some ⟨b, 0, none⟩)] w fun e w' => (∃ v, e = .returned v) ∧ Blk w' b sd 320 (bs.map halfB) ∧ w.grownBy w' (some b) := by
  have HL := hide hl
  have HX := hide hx
  have h0 : Blk w b sd age (halfBs bs 0) := by rw [halfBs_zero]; exact h
  clear hl hx h
  go_enter Tryz.func131, Tryz.ntmps131
  go_wp2
  go_loopw [5] (fun i wr => ∃ r : Nat, r ≤ 4 ∧ i = .int .i64 r ∧ Blk wr b sd age (halfBs bs (32 * r)) ∧ w.grownBy wr (some b)) (fun i _ => 4 - (intOf i).toNat)
  case atStart => exact ⟨0, by omega, rfl, h0, gr_refl _ _⟩
  case round =>
    clear h0
    obtain ⟨r, hr, rfl, hB, hg⟩ := hrel
    by_cases hlt : r < 4
    · have hR := hide (rowV_range r HL.out hlt hB)
      have hi : Hid ((Tryz.prog.info? 158).map (·.size) = some (rowV bs r).length) := by
        show _ = _
        rw [rowV_len HL.out r hlt]
        kernel_rfl
      have h1 := row_at b r hlt
      have HV := hide (fun i (hi : i < 32) => index_val (rowV bs r).toArray i _ hi (rowV_get HL.out r i hlt hi))
      generalize rowV bs r = cs at *
      go_wp2_with (refine wpList_load_mid rfl 158 _ rfl b _ rfl cs _ hR.out Tryz.underlying158 rfl hi.out ?_)
      clear hR hi
      go_loopw [14] (fun i wr2 => ∃ c : Nat, c ≤ 32 ∧ i = .int .i64 c ∧ Blk wr2 b sd age (halfBs bs (32 * r + c)) ∧ w.grownBy wr2 (some b)) (fun i _ => 32 - (intOf i).toNat)
      case atStart => exact ⟨0, by omega, rfl, hB, hg⟩
      case round =>
        clear hB hg
        obtain ⟨c, hc, rfl, hB, hg⟩ := hrel
        by_cases hlt2 : c < 32
        · have hix := HV.out c hlt2
          have h2 := byte_at b (2 + 32 * r) c hlt2
          have hE := half_byte (bs.getD (32 * r + c) 0) (getD_lt256 HX.out _)
          have hln : 32 * r + c < bs.length := by rw [HL.out]; omega
          have hfr := blk_free hB (2 + 32 * r + c)
          have hcl := blk_at hB (32 * r + c) (by rw [halfBs_len]; exact hln)
          have hN := blk_set hB (32 * r + c) (halfB (bs.getD (32 * r + c) 0))
          have hgN := set_grown hg (o := 2 + (32 * r + c)) (.int .u8 ((halfB (bs.getD (32 * r + c) 0) : Nat) : Int))
          rw [halfBs_step bs _ hln] at hN
          rw [← Nat.add_assoc] at hN hgN hcl
          generalize halfB (bs.getD (32 * r + c) 0) = z at *
          generalize bs.getD (32 * r + c) 0 = x at *
          have HN := hide hN
          have HG := hide hgN
          clear hN hgN hln hB hg
          go_wp2
          go_round
          case rel => exact ⟨c + 1, by omega, by go_num, HN.out, HG.out⟩
          case measure => simp [intOf]; omega
        · obtain rfl : c = 32 := by omega
          go_wp2
          go_round
          case rel => exact ⟨r + 1, by omega, by go_num, hB, hg⟩
          case measure => simp [intOf]; omega
    · obtain rfl : r = 4 := by omega
      rw [halfBs_all bs (32 * 4) (by rw [HL.out]; decide)] at hB
      have hfr := blk_free hB 1
      have hcl := blk_age hB
      have HN := hide (blk_setAge hB 320)
      have HG := hide (set_grown hg (o := 1) (.int .i64 ((320 : Nat) : Int)))
      go_wp2
      go_end0
      exact ⟨⟨_, rfl⟩, HN.out, HG.out⟩
end Go.Proofs.YtkfeafmpaodagaaGreatDoor
