/- The document's own text dialect: its small functions. Conditions: none. -/
import Derived.Test.YtfcmnkhfmofioaaDoorG08Joined
import Derived.Test.YtfcmnkhfmofioaaDoorFrameRefK
namespace Go.Proofs.YtfcmnkhfmofioaaDoor
set_option linter.unusedVariables false
open Go.RowKit

def zeroSt : Array Value := #[.slice none 0 0, .int .i64 0, .string ⟨#[]⟩, .int .i64 0, .int .u32 0, .bool false, .bool false, .string ⟨#[]⟩, .slice none 0 0, .slice none 0 0, .bool false, .string ⟨#[]⟩, .int .i64 0, .int .i64 0, .bool false, .int .i64 0]
theorem rbad_any (w : World) : Calls Tryd.prog 34 #[] w fun e w' => e = .returned (.string (mkB t_bad)) ∧ w = w' := by
  go_enter Tryd.func34, Tryd.ntmps34
  go_wp2
  go_ret
  exact ⟨rfl, rfl⟩
set_option maxRecDepth 100000 in
set_option maxHeartbeats 1000000 in
theorem rfault_any (f : List UInt8) (hf : f.length ≤ 1000) (used : Int) (w : World) : Calls Tryd.prog 14 #[.int .i64 used, .string (mkB f)] w fun e w' => e = .returned (.agg (stC (refuseS f used) none 0 none 0 none 0)) ∧ w.grownBy w' none := by
  have hg := World.grownBy_alloc w (.cells (stC (refuseS f used) none 0 none 0 none 0) 34) none
  have HE : Hid (stC (refuseS f used) none 0 none 0 none 0 = #[.slice none 0 0, .int .i64 0, .string ⟨#[]⟩, .int .i64 0, .int .u32 0, .bool false, .bool false, .string ⟨#[]⟩, .slice none 0 0, .slice none 0 0, .bool false, .string (⟨f.toArray⟩ ++ ⟨#[13, 10]⟩), .int .i64 used, .int .i64 0, .bool false, .int .i64 2]) := by
    show _ = _
    rw [show (⟨f.toArray⟩ ++ ⟨#[13, 10]⟩ : ByteArray) = mkB (f ++ t_end) from str_app f t_end]
    rfl
  have hl : ¬ 9223372036854775807 < f.length + 2 := by omega
  clear hf
  simp only [mkB]
  go_enter Tryd.func14, Tryd.ntmps14
  go_wp2_with (refine wpList_store_row rfl 34 _ _ rfl w.heap.size (stC (refuseS f used) none 0 none 0 none 0) rfl (by rw [HE.out]; rfl) _ (stC noS none 0 none 0 none 0) (World.alloc_heap_new w _) (step_size _ _ _ _ _ _ _) rfl (step_one _ _ _ _ _ _ _) ?_; rw [setRow_alloc])
  exact step_ret rfl (World.alloc_heap_new w _) rfl rfl ⟨rfl, hg⟩
/-- A request of one command. -/
def oneS (used : Int) (c : Cv) (f : Fv) : Sv := ⟨⟨[c], f⟩, ⟨#[]⟩, used, 0, false, 0⟩
def OneEnd (used : Int) (c : Cv) (va : Option Addr) (vc : Nat) (f : Fv) (ta : Option Addr) (tc : Nat) (ka : Option Addr) (kc : Nat) (w : World) (e : Ending) (w' : World) : Prop :=
  ∃ B, w.heap.size ≤ B ∧ B < w'.heap.size ∧ e = .returned (.agg (stC (oneS used c f) (some ⟨B, 0, none⟩) 1 ta tc ka kc)) ∧ w'.heap[B]? = some (.cells (cmC c va vc) 40 (0, 0)) ∧ w.grownBy w' none
theorem fmr_at {W : World} {p : Nat} {f : Fv} {ta ka : Option Addr} {tc kc : Nat} {t : TypeId} (h : W.heap[p]? = some (.cells (fmC f ta tc ka kc) t (0, 0))) (j : Nat) (v : Value) (hv : (fmC f ta tc ka kc)[j]? = some v) : W.cell? ⟨p, j, none⟩ = some v := by
  unfold World.cell?
  rw [h]
  exact hv
theorem fmr_cells {W : World} {p : Nat} {f : Fv} {ta ka : Option Addr} {tc kc : Nat} {t : TypeId} (h : W.heap[p]? = some (.cells (fmC f ta tc ka kc) t (0, 0))) : W.cell? ⟨p, 0, none⟩ = some (.int .i64 f.dia) ∧ W.cell? ⟨p, 1, none⟩ = some (.string f.verb) ∧ W.cell? ⟨p, 2, none⟩ = some (.int .i64 f.code) ∧ W.cell? ⟨p, 3, none⟩ = some (.int .u32 f.opq) ∧ W.cell? ⟨p, 4, none⟩ = some (.bool f.quiet) ∧ W.cell? ⟨p, 5, none⟩ = some (.bool f.wcas) ∧ W.cell? ⟨p, 6, none⟩ = some (.string f.flags) ∧ W.cell? ⟨p, 7, none⟩ = some (.slice ta f.toks.length tc) ∧ W.cell? ⟨p, 8, none⟩ = some (.slice ka f.keys.length kc) ∧ W.cell? ⟨p, 9, none⟩ = some (.bool f.b64) :=
  ⟨fmr_at h 0 _ rfl, fmr_at h 1 _ rfl, fmr_at h 2 _ rfl, fmr_at h 3 _ rfl, fmr_at h 4 _ rfl, fmr_at h 5 _ rfl, fmr_at h 6 _ rfl, fmr_at h 7 _ rfl, fmr_at h 8 _ rfl, fmr_at h 9 _ rfl⟩
set_option maxRecDepth 100000 in
set_option maxHeartbeats 2000000 in
theorem rone_any (used : Int) (c : Cv) (va : Option Addr) (vc : Nat) (f : Fv) (ta : Option Addr) (tc : Nat) (ka : Option Addr) (kc : Nat) (w : World) : Calls Tryd.prog 36 #[.int .i64 used, .agg (cmC c va vc), .agg (fmC f ta tc ka kc)] w fun e w' => OneEnd used c va vc f ta tc ka kc w e w' := by
  obtain ⟨W1, hW1⟩ : ∃ W1, W1 = w.alloc (.cells (cmC c va vc) 40) := ⟨_, rfl⟩
  obtain ⟨W2, hW2⟩ : ∃ W2, W2 = W1.alloc (.cells (fmC f ta tc ka kc) 29) := ⟨_, rfl⟩
  obtain ⟨W3, hW3⟩ : ∃ W3, W3 = W2.alloc (.cells zeroSt 34) := ⟨_, rfl⟩
  obtain ⟨W4, hW4⟩ : ∃ W4, W4 = W3.alloc (.cells (cmC c va vc) 40) := ⟨_, rfl⟩
  have z1 : W1.heap.size = w.heap.size + 1 := by rw [hW1, World.size_alloc]
  have z2 : W2.heap.size = w.heap.size + 1 + 1 := by rw [hW2, World.size_alloc, z1]
  have z3 : W3.heap.size = w.heap.size + 1 + 1 + 1 := by rw [hW3, World.size_alloc, z2]
  have z4 : W4.heap.size = w.heap.size + 1 + 1 + 1 + 1 := by rw [hW4, World.size_alloc, z3]
  have g1 : w.grownBy W1 none := by rw [hW1]; exact World.grownBy_alloc _ _ _
  have g2 : W1.grownBy W2 none := by rw [hW2]; exact World.grownBy_alloc _ _ _
  have g3 : W2.grownBy W3 none := by rw [hW3]; exact World.grownBy_alloc _ _ _
  have g4 : W3.grownBy W4 none := by rw [hW4]; exact World.grownBy_alloc _ _ _
  have n1 : W1.heap[w.heap.size]? = some (.cells (cmC c va vc) 40 (0, 0)) := by rw [hW1]; exact World.alloc_heap_new _ _
  have n2 : W2.heap[w.heap.size + 1]? = some (.cells (fmC f ta tc ka kc) 29 (0, 0)) := by rw [hW2, ← z1]; exact World.alloc_heap_new _ _
  have n3 : W3.heap[w.heap.size + 1 + 1]? = some (.cells zeroSt 34 (0, 0)) := by rw [hW3, ← z2]; exact World.alloc_heap_new _ _
  have n4 : W4.heap[w.heap.size + 1 + 1 + 1]? = some (.cells (cmC c va vc) 40 (0, 0)) := by rw [hW4, ← z3]; exact World.alloc_heap_new _ _
  have r1 := hide ((g3.block _ (by omega) (by simp)).trans ((g2.block _ (by omega) (by simp)).trans n1))
  have r2 := (g4.block _ (by omega) (by simp)).trans ((g3.block _ (by omega) (by simp)).trans n2)
  have r3 := hide ((g4.block _ (by omega) (by simp)).trans n3)
  obtain ⟨f0, f1, f2, f3, f4, f5, f6, f7, f8, f9⟩ := fmr_cells r2
  have HW3 : Hid (((w.alloc (.cells (cmC c va vc) 40)).alloc (.cells (fmC f ta tc ka kc) 29)).alloc (.cells zeroSt 34) = W3) := by show _ = _; rw [hW3, hW2, hW1]
  unfold zeroSt at HW3
  have HW4 : Hid (W3.alloc (.cells (cmC c va vc) 40) = W4) := hW4.symm
  have Z3 := hide z3
  have hend := setRow_heap W4 _ zeroSt (stC (oneS used c f) (some ⟨w.heap.size + 1 + 1 + 1, 0, none⟩) 1 ta tc ka kc) _ _ r3.out
  have HP : Hid (OneEnd used c va vc f ta tc ka kc w (.returned (.agg (stC (oneS used c f) (some ⟨w.heap.size + 1 + 1 + 1, 0, none⟩) 1 ta tc ka kc))) (W4.setRow (w.heap.size + 1 + 1) (stC (oneS used c f) (some ⟨w.heap.size + 1 + 1 + 1, 0, none⟩) 1 ta tc ka kc))) := by
    have hg : w.grownBy W4 none := gr_trans g1 (gr_trans g2 (gr_trans g3 g4))
    exact ⟨w.heap.size + 1 + 1 + 1, by omega, by rw [size_setRow]; omega, rfl, (setRow_other W4 _ _ _ (by omega)).trans n4, ⟨hg.os, hg.tape, hg.output, by rw [size_setRow]; exact hg.size, fun k hk hn => (setRow_other W4 _ k _ (by omega)).trans (hg.block k hk hn)⟩⟩
  obtain ⟨i0, hi, hz0, hz1, hz2⟩ := info_parts info_cmd
  clear r2 n1 n2 n3 n4 g1 g2 g3 g4 hW1 hW2 hW3 hW4 z1 z2 z3 z4
  go_enter Tryd.func36, Tryd.ntmps36
  go_wp2_with (first
    | (rw [HW3.out]; refine wpList_load_row rfl 40 _ rfl w.heap.size rfl _ (cmC c va vc) _ _ r1.out Tryd.underlying40 rfl (cmd_size _ _ _) ?_)
    | (refine wpList_buildSlice rfl 25 40 1 _ rfl (cmC c va vc) i0 _ Tryd.underlying25 hi hz0 (by rw [hz1]; decide) (by rw [hz1]; decide) (by rw [hz1]; kernel_rfl) ?_; rw [HW4.out, Z3.out])
    | (refine wpList_store_row rfl 34 _ _ rfl (w.heap.size + 1 + 1) (stC (oneS used c f) (some ⟨w.heap.size + 1 + 1 + 1, 0, none⟩) 1 ta tc ka kc) rfl rfl _ _ r3.out (step_size _ _ _ _ _ _ _) rfl (step_one _ _ _ _ _ _ _) ?_))
  exact step_ret rfl hend rfl rfl HP.out
end Go.Proofs.YtfcmnkhfmofioaaDoor
