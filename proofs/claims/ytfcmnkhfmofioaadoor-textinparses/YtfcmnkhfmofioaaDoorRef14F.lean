/- The document's own text dialect: lines that store, what their paths share. Conditions: the words are not too long. -/
import Derived.Test.YtfcmnkhfmofioaaDoorRef14E
import Derived.Test.YtfcmnkhfmofioaaDoorFrameRefL
import Derived.Test.YtfcmnkhfmofioaaDoorG06Joined
namespace Go.Proofs.YtfcmnkhfmofioaaDoor
set_option linter.unusedVariables false
set_option linter.unusedSimpArgs false
open Go.RowKit

theorem dec48 : decV [48] = 0 ∧ decB [48] = true := ⟨by kernel_rfl, by kernel_rfl⟩
theorem hui_of {u : Nat} (h : u ≤ 1073741824) : (u : Int) ≤ 1073741824 := by omega
theorem hui_no {u : Nat} (h : 1073741824 < u) : ¬ (u : Int) ≤ 1073741824 := by omega
theorem hus_of {u : Nat} (h : u ≤ 1073741824) : wrap64 (u : Int) = (u : Int) := by unfold wrap64; omega
theorem hus2_of {u : Nat} (h : u ≤ 1073741824) : wrap64 ((u : Int) + 2) = (u : Int) + 2 := by unfold wrap64; omega
theorem hfi_of {fu : Nat} (h : 4294967295 < fu) : (4294967295 : Int) < (fu : Int) := by omega
theorem hfi_no {fu : Nat} (h : fu ≤ 4294967295) : ¬ (4294967295 : Int) < (fu : Int) := by omega
theorem hfc_of {fu : Nat} (h : fu ≤ 4294967295) : IntKind.u32.wrap (fu : Int) = (fu : Int) := by
  show (fu : Int) % 4294967296 = (fu : Int)
  omega
theorem hli_of {u : Nat} (h : 1000 < u) : (1000 : Int) < (u : Int) := by omega
theorem hli_no {u : Nat} (h : u ≤ 1000) : ¬ (1000 : Int) < (u : Int) := by omega
theorem huk_of {used len : Nat} {kk : Int} (h1 : used ≤ len) (h2 : len ≤ 10000) (hk : kk ≤ 2000 ∧ 0 ≤ kk) : wrap64 ((used : Int) + kk) = (used : Int) + kk := by unfold wrap64; omega
theorem huk2_of {z : Int} (h : wrap64 z = z) : IntKind.i64.wrap z = z := by
  rw [IntKind.wrap_i64]
  unfold wrap64 at h
  exact h
/-- The answer's reply is another one. -/
theorem out_large {W0 W3 : World} {O : Nat} {used sk : Int} (n3 : W3.heap[O]? = some (.cells (stC { refuseS t_bad used with skip := sk } none 0 none 0 none 0) 34 (0, 0))) (g3 : W0.grownBy W3 none) (l3 : W0.heap.size ≤ O) : ∃ W4, W3.setCell ⟨O, 11, none⟩ (.string (mkB (t_large ++ t_end))) = W4 ∧ W3.cell? ⟨O, 11, none⟩ = some (.string (mkB (t_bad ++ t_end))) ∧ W3.frozen? ⟨O, 11, none⟩ = false ∧ W4.heap[O]? = some (.cells (stC { refuseS t_large used with skip := sk } none 0 none 0 none 0) 34 (0, 0)) ∧ W0.grownBy W4 none :=
  ⟨_, rfl, by unfold World.cell?; rw [n3]; rfl, frozen_of_row _ _ _ _ _ n3, heap_setCell_same W3 O 11 _ _ (.string (mkB (t_large ++ t_end))) n3, grPut g3 l3 _⟩
/-- The draft of an answer, with how much must be passed over. -/
theorem out_mid {W0 w4 W2 : World} {B : Nat} {used : Int} (sk : Int) (g4 : W0.grownBy w4 none) (hW2 : W2 = w4.alloc (.cells (stC (refuseS t_bad used) none 0 none 0 none 0) 34)) (hB : B = w4.heap.size) : W2.cell? ⟨B, 13, none⟩ = some (.int .i64 0) ∧ W2.frozen? ⟨B, 13, none⟩ = false ∧ (W2.setCell ⟨B, 13, none⟩ (.int .i64 sk)).heap[B]? = some (.cells (stC { refuseS t_bad used with skip := sk } none 0 none 0 none 0) 34 (0, 0)) ∧ W0.grownBy (W2.setCell ⟨B, 13, none⟩ (.int .i64 sk)) none ∧ W0.heap.size ≤ B := by
  have n2 : W2.heap[B]? = some (.cells (stC (refuseS t_bad used) none 0 none 0 none 0) 34 (0, 0)) := by rw [hW2, hB]; exact World.alloc_heap_new _ _
  have g2 : W0.grownBy W2 none := gr_trans g4 (by rw [hW2]; exact World.grownBy_alloc _ _ _)
  have hl : W0.heap.size ≤ B := by rw [hB]; exact g4.size
  exact ⟨by unfold World.cell?; rw [n2]; rfl, frozen_of_row _ _ _ _ _ n2, heap_setCell_same W2 B 13 _ _ (.int .i64 sk) n2, grPut g2 hl _, hl⟩
/-- Where the function of the lines that store begins. -/
structure BegS (w W0 : World) : Prop where
  eW : w.alloc (.cells #[.slice none 0 0, .int .i64 0, .string ⟨#[]⟩, .int .i64 0, .int .u32 0, .bool false, .bool false, .string ⟨#[]⟩, .slice none 0 0, .slice none 0 0, .bool false, .string ⟨#[]⟩, .int .i64 0, .int .i64 0, .bool false, .int .i64 0] 34) = W0
  gr : w.grownBy W0 none
  z : W0.heap.size = w.heap.size + 1
  res : W0.heap[w.heap.size]? = some (.cells zeroSt 34 (0, 0))
theorem begS_of (w : World) : ∃ W0, BegS w W0 := by
  obtain ⟨W0, hW0⟩ : ∃ W0, W0 = w.alloc (.cells zeroSt 34) := ⟨_, rfl⟩
  exact ⟨W0, hW0.symm, by rw [hW0]; exact World.grownBy_alloc _ _ _, by rw [hW0, World.size_alloc], by rw [hW0]; exact World.alloc_heap_new _ _⟩
/-- The first two words lie where they lay. -/
def SB (b : Nat) (V X : ByteArray) (W : World) : Prop := W.cell? ⟨b, 0, none⟩ = some (.string V) ∧ W.cell? ⟨b, 1, none⟩ = some (.string X)
theorem cell_goes {w w' : World} {p : Addr} {v : Value} (hg : w.grownBy w' none) (h : w.cell? p = some v) : w'.cell? p = some v := ((below_gr hg).cell (World.block_lt_of_cell? w _ h)).trans h
theorem box_in {w5 : World} (w : World) (cs : Array Value) (g : w5.grownBy w none) : ∃ K w8, w.heap.size = K ∧ w.alloc (.cells cs 40) = w8 ∧ w8.heap[K]? = some (.cells cs 40 (0, 0)) ∧ w5.heap.size ≤ K ∧ w5.grownBy w8 none :=
  ⟨_, _, rfl, rfl, World.alloc_heap_new _ _, g.size, gr_trans g (World.grownBy_alloc _ _ _)⟩
theorem row_in {w5 w8 : World} {K : Nat} {old : Array Value} (cs : Array Value) (n8 : w8.heap[K]? = some (.cells old 40 (0, 0))) (l8 : w5.heap.size ≤ K) (g8 : w5.grownBy w8 none) : ∃ w9, w9.heap[K]? = some (.cells cs 40 (0, 0)) ∧ w5.grownBy w9 none ∧ w8.setRow K cs = w9 :=
  ⟨_, setRow_heap w8 K old cs _ _ n8, ⟨g8.os, g8.tape, g8.output, by rw [size_setRow]; exact g8.size, fun k hk hn => (setRow_other w8 K k _ (by omega)).trans (g8.block k hk hn)⟩, rfl⟩
theorem SB.on {b : Nat} {V X : ByteArray} {w w' : World} (h : SB b V X w) (hg : w.grownBy w' none) : SB b V X w' := ⟨cell_goes hg h.1, cell_goes hg h.2⟩
def zeroCm : Array Value := #[.int .i64 0, .string ⟨#[]⟩, .slice none 0 0, .int .u32 0, .int .i64 0, .int .u64 0, .int .u64 0, .int .u64 0, .bool false, .bool false]
/-- A line that stores: its step, with all its rows. -/
theorem st_end {w W0 w5 W : World} {b n cap n5 B : Nat} {v x : List UInt8} {ws : List (List UInt8)} {q : Bool} {used : Int} {c : Cv} {va : Option Addr} {vc : Nat} (hb : BegS w W0) (hW : Ru w b 0 n cap (v :: x :: ws)) (g5 : W0.grownBy w5 none) (U5 : ValAt n5 w5 va vc c.val) (h5 : W0.heap.size ≤ n5) (g : w5.grownBy W none) (hB : W.heap[B]? = some (.cells (cmC c va vc) 40 (0, 0))) (hl : W0.heap.size ≤ B) :
    (W.setRow w.heap.size (stC (oneS used c (formO v q [mkB x])) (some ⟨B, 0, none⟩) 1 none 0 (some ⟨b, 1, none⟩) (cap - 1))).heap[w.heap.size]? = some (.cells (stC (oneS used c (formO v q [mkB x])) (some ⟨B, 0, none⟩) 1 none 0 (some ⟨b, 1, none⟩) (cap - 1)) 34 (0, 0)) ∧ REnd b (oneS used c (formO v q [mkB x])) w (.returned (.agg (stC (oneS used c (formO v q [mkB x])) (some ⟨B, 0, none⟩) 1 none 0 (some ⟨b, 1, none⟩) (cap - 1)))) (W.setRow w.heap.size (stC (oneS used c (formO v q [mkB x])) (some ⟨B, 0, none⟩) 1 none 0 (some ⟨b, 1, none⟩) (cap - 1))) := by
  have z0 := hb.z
  have g0 := gr_trans g5 g
  refine r_end hW.lt ((g0.block _ (by omega) (by simp)).trans hb.res) (gr_trans hb.gr g0) fun W' hw hz => ?_
  have uv : ValAt n5 W va vc c.val := own_same U5 fun k hk => g.block k (own_at U5 hk).2.1 (by simp)
  have uv' : ValAt n5 W' va vc c.val := own_same uv fun k hk => hw k (.inr (by have := (own_at uv hk).1; omega)) (own_at uv hk).2.1
  exact one_qat ((hw B (.inr (by omega)) (Array.getElem?_eq_some_iff.1 hB).1).trans hB) uv'.bu (Su.none_ _) (su_one hW (gr_trans hb.gr g0) (hw b (.inl rfl) (Nat.lt_of_lt_of_le hW.lt (gr_trans hb.gr g0).size)) hz)
theorem body_few (r : List UInt8) {u : Nat} (hu : u ≤ 1000) : (bodyN r (u : Int)).2.1 ≤ 2000 ∧ 0 ≤ (bodyN r (u : Int)).2.1 := by
  unfold bodyN
  repeat' split
  · exact ⟨by decide, by decide⟩
  · exact ⟨by decide, by decide⟩
  · simp only []; omega
  · simp only []; omega
end Go.Proofs.YtfcmnkhfmofioaaDoor
