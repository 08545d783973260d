/- What the sketch is in memory, two counters in a byte, and what New, Copy, Age, shift and counter come to in package sketch. Conditions: none. -/
import Derived.Test.YtpjmhiokhoplmaaKit0
import Derived.Test.YtpjmhiokhoplmaaSketchCon
import Derived.Laws.Tables
import Derived.Laws.Rows
import Derived.Laws.CopyRow
import Derived.Deep.MidRow
import Derived.Deep.WholeRow
namespace Go.Proofs.Ytpjmhiokhoplmaa
open Go.RowKit

/-- Two counters in a byte, and all bytes. -/
def pk (C : List Nat) (j : Nat) : Nat := C.getD (2 * j) 0 + 16 * C.getD (2 * j + 1) 0
def pack (C : List Nat) : List Nat := (List.range 128).map (pk C)
theorem pack_len (C : List Nat) : (pack C).length = 128 := by simp [pack]
theorem pack_get (C : List Nat) (j : Nat) (h : j < 128) : (pack C)[j]? = some (pk C j) := by
  simp [pack, List.getElem?_map, List.getElem?_range h]
theorem pack_getD (C : List Nat) (j : Nat) (h : j < 128) : (pack C).getD j 0 = pk C j := by
  simp only [List.getD, pack_get C j h, Option.getD_some]
theorem pk_lt {C : List Nat} (h : ∀ c ∈ C, c ≤ 15) (j : Nat) : pk C j < 256 := by
  have h1 := get_le h (2 * j)
  have h2 := get_le h (2 * j + 1)
  unfold pk
  omega
theorem pack_ext {C : List Nat} {l : List Nat} (hl : l.length = 128) (h : ∀ j, j < 128 → l.getD j 0 = pk C j) : l = pack C := by
  apply List.ext_getElem?
  intro j
  by_cases hj : j < 128
  · rw [pack_get C j hj, ← h j hj]
    simp [List.getD, List.getElem?_eq_getElem (show j < l.length by omega)]
  · rw [List.getElem?_eq_none (by omega), List.getElem?_eq_none (by rw [pack_len]; omega)]
theorem getD_set_eq (l : List Nat) (i j x : Nat) (h : i < l.length) : (l.set i x).getD j 0 = if i = j then x else l.getD j 0 := by
  simp only [List.getD, List.getElem?_set]
  by_cases e : i = j
  · subst e
    simp [h]
  · simp [e]
/-- One counter more, in its byte. -/
theorem pack_inc {C : List Nat} (hl : C.length = 256) (g : Nat) (hg : g < 256) (h : C.getD g 0 < 15) : pack (inc C g) = (pack C).set (g / 2) (pk C (g / 2) + (if g % 2 = 0 then 1 else 16)) := by
  symm
  apply pack_ext (by rw [List.length_set, pack_len])
  intro j hj
  rw [getD_set_eq _ _ _ _ (by rw [pack_len]; omega), pack_getD C j hj]
  unfold inc pk
  rw [if_pos h, getD_set_eq _ _ _ _ (by omega), getD_set_eq _ _ _ _ (by omega)]
  by_cases e : g / 2 = j
  · subst e
    rw [if_pos rfl]
    have h2 := Nat.mod_two_eq_zero_or_one g
    rcases h2 with h2 | h2
    · have e1 : 2 * (g / 2) = g := by omega
      rw [if_pos h2, e1, if_pos rfl, if_neg (by omega)]
      omega
    · have e1 : 2 * (g / 2) + 1 = g := by omega
      rw [if_neg (by omega), e1, if_neg (by omega), if_pos rfl]
      omega
  · rw [if_neg e, if_neg (by omega), if_neg (by omega)]
theorem pack_same {C : List Nat} (g : Nat) (h : ¬ C.getD g 0 < 15) : inc C g = C := by
  unfold inc
  rw [if_neg h]

/-- The cells of a sketch: its seed, its age, and its bytes. -/
def cellsK (sd age : Nat) (bs : List Nat) : Array Value := (.int .u64 sd :: .int .i64 age :: bs.map fun x => .int .u8 (x : Nat)).toArray
def Blk (w : World) (b sd age : Nat) (bs : List Nat) : Prop := w.heap[b]? = some (.cells (cellsK sd age bs) 62 (0, 0))
/-- The sketch at block b has this seed, these counters and this age. -/
def Sk0 (w : World) (b sd : Nat) (st : St) : Prop := GoodK st ∧ sd < 18446744073709551616 ∧ Blk w b sd st.2 (pack st.1)

theorem blk_lt {w : World} {b sd age : Nat} {bs : List Nat} (h : Blk w b sd age bs) : b < w.heap.size := (Array.getElem?_eq_some_iff.1 h).1
theorem blk_keep {w w' : World} {b sd age : Nat} {bs : List Nat} (h : Blk w b sd age bs) (e : w'.heap[b]? = w.heap[b]?) : Blk w' b sd age bs := e.trans h
theorem blk_seed {w : World} {b sd age : Nat} {bs : List Nat} (h : Blk w b sd age bs) : w.cell? ⟨b, 0, none⟩ = some (.int .u64 sd) := by
  rw [cell_of_row w b _ _ _ _ h]
  rfl
theorem blk_age {w : World} {b sd age : Nat} {bs : List Nat} (h : Blk w b sd age bs) : w.cell? ⟨b, 1, none⟩ = some (.int .i64 age) := by
  rw [cell_of_row w b _ _ _ _ h]
  rfl
theorem blk_at {w : World} {b sd age : Nat} {bs : List Nat} (h : Blk w b sd age bs) (j : Nat) (hj : j < bs.length) : w.cell? ⟨b, 2 + j, none⟩ = some (.int .u8 (bs.getD j 0 : Nat)) := by
  rw [cell_of_row w b _ _ _ _ h]
  simp [cellsK, Nat.add_comm 2, hj, List.getD]
theorem blk_free {w : World} {b sd age : Nat} {bs : List Nat} (h : Blk w b sd age bs) (j : Nat) : w.frozen? ⟨b, j, none⟩ = false := frozen_of_row w b _ _ _ h
theorem blk_set {w : World} {b sd age : Nat} {bs : List Nat} (h : Blk w b sd age bs) (j y : Nat) : Blk (w.setCell ⟨b, 2 + j, none⟩ (.int .u8 (y : Nat))) b sd age (bs.set j y) := by
  unfold Blk
  rw [heap_setCell_same w b _ _ _ _ h]
  unfold cellsK
  rw [List.setIfInBounds_toArray, Nat.add_comm, List.set_cons_succ, List.set_cons_succ, List.map_set]
theorem blk_setAge {w : World} {b sd age : Nat} {bs : List Nat} (h : Blk w b sd age bs) (y : Nat) : Blk (w.setCell ⟨b, 1, none⟩ (.int .i64 (y : Nat))) b sd y bs := by
  unfold Blk
  rw [heap_setCell_same w b _ _ _ _ h]
  unfold cellsK
  rw [List.setIfInBounds_toArray, List.set_cons_succ, List.set_cons_zero]

theorem sk_lt {w : World} {b sd : Nat} {st : St} (h : Sk0 w b sd st) : b < w.heap.size := blk_lt h.2.2
theorem sk_good {w : World} {b sd : Nat} {st : St} (h : Sk0 w b sd st) : GoodK st ∧ sd < 18446744073709551616 := ⟨h.1, h.2.1⟩
theorem sk_keep {w w' : World} {b sd : Nat} {st : St} (h : Sk0 w b sd st) (e : w'.heap[b]? = w.heap[b]?) : Sk0 w' b sd st := ⟨h.1, h.2.1, blk_keep h.2.2 e⟩

theorem zeroK (w : World) : (zeroValue 62).run Try.prog w = .ok (.agg (cellsK 0 0 (pack (List.replicate 256 0)))) w := (zero_of_info (n := 130) (by kernel_rfl)).1 w
theorem cellsK_seed (x y age : Nat) (bs : List Nat) : (cellsK x age bs).setIfInBounds 0 (.int .u64 (y : Nat)) = cellsK y age bs := by
  unfold cellsK
  rw [List.setIfInBounds_toArray, List.set_cons_zero]
theorem cellsK_size (x age : Nat) (bs : List Nat) : (cellsK x age bs).size = bs.length + 2 := by simp [cellsK]
theorem cellsK_ne (x age : Nat) (bs : List Nat) : (cellsK x age bs = #[]) = False := by
  simp [cellsK]
set_option maxHeartbeats 1000000 in
theorem sketchNew_any (sd : Nat) (w : World) : Calls Try.prog 20 #[.int .u64 sd] w fun e w' => e = .returned (.pointer (some ⟨w.heap.size, 0, none⟩)) ∧ w' = w.alloc (.cells (cellsK sd 0 (pack (List.replicate 256 0))) 62) := by
  have hz := zeroK
  have hs := cellsK_seed 0 sd 0 (pack (List.replicate 256 0))
  have hn := cellsK_ne 0 0 (pack (List.replicate 256 0))
  generalize cellsK 0 0 (pack (List.replicate 256 0)) = Z at *
  generalize cellsK sd 0 (pack (List.replicate 256 0)) = Y at *
  go_enter Try.func20, Try.ntmps20
  go_wp2
  go_ret
  exact ⟨rfl, rfl⟩
set_option maxHeartbeats 1000000 in
theorem shift_any (p : Nat) (h : p < 64) (w : World) : Calls Try.prog 37 #[.int .i64 p] w fun e w' => e = .returned (.int .i64 ((p % 2 * 4 : Nat) : Int)) ∧ w = w' := by
  have h1 : (p : Int).tmod 2 = ((p % 2 : Nat) : Int) := by rw [Int.tmod_eq_emod_of_nonneg (by omega)]; omega
  have h2 : (p : Int) % 2 = ((p % 2 : Nat) : Int) := by omega
  have h3 := Nat.mod_lt p (show 0 < 2 by decide)
  generalize p % 2 = m at *
  clear h
  go_enter Try.func37, Try.ntmps37
  go_wp2
  go_ret
  exact ⟨by rw [Int.natCast_mul]; rfl, rfl⟩
/-- A whole value into the block that was made last. -/
theorem wpList_store_new {P : Program} {ops : Array Oper} {rest : List Oper} {op : Oper} {a : Act} {w : World} {Q : Exit → Act → World → Prop} (hgd : op.guard = none) (ty : TypeId) (x y : Operand) (ho : op.op = .store ty x y)
    (w0 : World) (c c' : Array Value) (hw : w = w0.alloc (.cells c ty)) (hx : a.eval x = .pointer (some ⟨w0.heap.size, 0, none⟩)) (hy : a.eval y = .agg c')
    (hi : (P.info? ty).map (·.size) = some c'.size) (hc : c.size = c'.size) (h1 : c'.all (·.oneCell') = true)
    (h : wpList P ops Q rest (a.put op.dst undef) (w0.alloc (.cells c' ty))) : wpList P ops Q (op :: rest) a w := by
  refine wpList_plain hgd fun K hK => ?_
  subst hw
  unfold Oper.wp execOp
  simp only [ho, hx, hy, Instr.storeAt, Instr.sureAddr, Sem.run_bind, Sem.run_pure, Result.andThen_ok, run_storeVar_new w0 ty c c' hi hc h1]
  exact hK _ _ h
set_option maxHeartbeats 1000000 in
theorem sketchCopy_any {w : World} {b sd age : Nat} {bs : List Nat} (hl : bs.length = 128) (h : Blk w b sd age bs) : Calls Try.prog 23 #[.pointer (some ⟨b, 0, none⟩)] w fun e w' => e = .returned (.pointer (some ⟨w.heap.size, 0, none⟩)) ∧ w' = w.alloc (.cells (cellsK sd age bs) 62) := by
  have hz := zeroK
  have sz : (cellsK sd age bs).size = 130 := by rw [cellsK_size, hl]
  have sz0 : (cellsK 0 0 (pack (List.replicate 256 0))).size = 130 := by rw [cellsK_size, pack_len]
  have si : (Try.prog.info? 62).map (·.size) = some 130 := by kernel_rfl
  have o1 : (cellsK sd age bs).all (·.oneCell') = true := by simp [cellsK, Value.oneCell']
  unfold Blk at h
  generalize cellsK 0 0 (pack (List.replicate 256 0)) = Z at *
  generalize cellsK sd age bs = Y at *
  have H1 := hide (si.trans (congrArg some sz.symm))
  have H2 := hide (sz0.trans sz.symm)
  have H3 := hide o1
  have H4 := hide h
  clear sz sz0 si o1 h hl
  go_enter Try.func23, Try.ntmps23
  go_wp2_with (first
    | (refine wpList_load_row rfl 62 _ rfl b rfl _ Y _ _ H4.out Try.underlying62 rfl H1.out ?_)
    | (refine wpList_store_new rfl 62 _ _ rfl w Z Y rfl rfl rfl H1.out H2.out H3.out ?_))
  go_ret
  exact ⟨rfl, rfl⟩
end Go.Proofs.Ytpjmhiokhoplmaa
