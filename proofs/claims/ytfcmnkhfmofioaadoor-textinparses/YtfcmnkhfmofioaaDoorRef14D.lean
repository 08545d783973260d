/- The document's own text dialect: flush_all. Conditions: the words are not too long. -/
import Derived.Test.YtfcmnkhfmofioaaDoorRef14C
import Derived.Test.YtfcmnkhfmofioaaDoorRefSignedB
namespace Go.Proofs.YtfcmnkhfmofioaaDoor
set_option linter.unusedVariables false
open Go.RowKit

/-- Where the function of the other lines begins: its result's block, its form's. -/
structure Beg (w W0 W1 : World) (f : Fv) : Prop where
  eW : w.alloc (.cells #[.slice none 0 0, .int .i64 0, .string ⟨#[]⟩, .int .i64 0, .int .u32 0, .bool false, .bool false, .string ⟨#[]⟩, .slice none 0 0, .slice none 0 0, .bool false, .string ⟨#[]⟩, .int .i64 0, .int .i64 0, .bool false, .int .i64 0] 34) = W0
  st : ∀ old, (W0.alloc (.cells old 29)).setRow (w.heap.size + 1) (fmC f none 0 none 0) = W1
  nw : ∀ old, (W0.alloc (.cells old 29)).heap[w.heap.size + 1]? = some (.cells old 29 (0, 0))
  g0 : w.grownBy W0 none
  gr : w.grownBy W1 none
  z0 : W0.heap.size = w.heap.size + 1
  z : W1.heap.size = w.heap.size + 2
  res : W1.heap[w.heap.size]? = some (.cells zeroSt 34 (0, 0))
  frm : W1.heap[w.heap.size + 1]? = some (.cells (fmC f none 0 none 0) 29 (0, 0))
theorem beg_of (w : World) (f : Fv) : ∃ W0 W1, Beg w W0 W1 f := by
  obtain ⟨W0, hW0⟩ : ∃ W0, W0 = w.alloc (.cells zeroSt 34) := ⟨_, rfl⟩
  obtain ⟨W1, hW1⟩ : ∃ W1, W1 = W0.alloc (.cells (fmC f none 0 none 0) 29) := ⟨_, rfl⟩
  have z0 : W0.heap.size = w.heap.size + 1 := by rw [hW0, World.size_alloc]
  have g0 : w.grownBy W0 none := by rw [hW0]; exact World.grownBy_alloc _ _ _
  have g1 : W0.grownBy W1 none := by rw [hW1]; exact World.grownBy_alloc _ _ _
  have r0 : W0.heap[w.heap.size]? = some (.cells zeroSt 34 (0, 0)) := by rw [hW0]; exact World.alloc_heap_new _ _
  exact ⟨W0, W1, hW0.symm, fun old => by rw [hW1, ← z0]; exact setRow_alloc _ _ _ _, fun old => by rw [← z0]; exact World.alloc_heap_new _ _, g0, gr_trans g0 g1, z0, by rw [hW1, World.size_alloc, z0], (g1.block _ (by omega) (by simp)).trans r0, by rw [hW1, ← z0]; exact World.alloc_heap_new _ _⟩
/-- The form of a line without keys. -/
def formO (v : List UInt8) (q : Bool) (ks : List ByteArray) : Fv := ⟨1, mkB v, 0, 0, q, false, ⟨#[]⟩, [], ks, false⟩
theorem fmC_oneO (f : Fv) (ta : Option Addr) (tc : Nat) (ka : Option Addr) (kc : Nat) : (fmC f ta tc ka kc).all (·.oneCell') = true := by simp [fmC, Value.oneCell']
theorem fmC_sizeO (f : Fv) (ta : Option Addr) (tc : Nat) (ka : Option Addr) (kc : Nat) : (Tryd.prog.info? 29).map (·.size) = some (fmC f ta tc ka kc).size := by
  have h : (Tryd.prog.info? 29).map (·.size) = some 10 := by kernel_rfl
  exact h
theorem mkB_size (x : List UInt8) : (mkB x).size = x.length := by rw [← size_list, mkB_list]
theorem rsgn_any (x : List UInt8) (hx : x.length ≤ 5000) (w : World) : Calls Tryd.prog 35 #[.string (mkB x)] w fun e w' => e = .returned (.tuple #[.int .i64 (sgnV x), .bool (sgnB x)]) ∧ w = w' :=
  (refSigned_any (mkB x) (by rw [mkB_size]; omega) w).mono fun e w' h => ⟨h.1, h.2.symm⟩
theorem rdec_any (x : List UInt8) (hx : x.length ≤ 5000) (w : World) : Calls Tryd.prog 37 #[.string (mkB x)] w fun e w' => e = .returned (.tuple #[.int .u64 (decV x), .bool (decB x)]) ∧ w = w' :=
  (refDecimal_any (mkB x) (by rw [mkB_size]; omega) w).mono fun e w' h => ⟨h.1, h.2.symm⟩
section
variable {w W0 W1 : World} {b n cap : Nat} {ws : List (List UInt8)} {q : Bool}
set_option maxRecDepth 100000 in
set_option maxHeartbeats 1000000 in
theorem rflush_many (hW : Ru w b 0 n cap (vb_flush :: ws)) (h2 : 2 ≤ ws.length) (used : Int) : Calls Tryd.prog 21 #[.slice (some ⟨b, 0, none⟩) n cap, .bool q, .int .i64 used] w fun e w' => REnd b (refuseS t_ERROR used) w e w' := by
  have hn := hW.n
  have hb := hW.lt
  have hni : (2 : Int) < (n : Int) := by simp at hn; omega
  have hn0 : ¬ (n : Int) ≤ 0 := by omega
  obtain ⟨W0, W1, B⟩ := beg_of w (formO vb_flush q [])
  have c0 := (hW.on B.g0).at0 0 (by simp)
  have c1 := (hW.on B.gr).at0 0 (by simp)
  have eW := B.eW
  have z0 := B.z0
  have HB := hide B
  have hl1 : w.heap.size < W1.heap.size := by have := B.z; omega
  have HE := hide (fun (W : World) (g : W1.grownBy W none) => r_bare (w := w) (W := W) (b := b) (s := refuseS t_ERROR used) hb rfl ((g.block _ hl1 (by simp)).trans HB.out.res) (gr_trans HB.out.gr g))
  have R1 := hide (fun (W : World) (g : W1.grownBy W none) => (g.block _ hl1 (by simp)).trans HB.out.res)
  have HF := hide (fun W => rfault_any t_ERROR (by decide) used W)
  simp only [List.getElem_cons_zero, vb_flush, mkB] at c0 c1
  simp only [t_ERROR, mkB] at HF
  clear B hb hW hl1 hn h2
  go_enter Tryd.func21, Tryd.ntmps21
  go_wp2_with (first
    | (refine wpList_store_row rfl 29 _ _ rfl (w.heap.size + 1) (fmC (formO vb_flush q []) none 0 none 0) rfl rfl _ _ (HB.out.nw _) (fmC_sizeO _ _ _ _ _) rfl (fmC_oneO _ _ _ _ _) ?_; rw [HB.out.st]; clear eW z0)
    | (go_at_call 14; refine (HF.out _).mono ?_; rintro e w1 ⟨rfl, g1⟩; replace g1 := hide g1)
    | (refine wpList_store_row rfl 34 _ _ rfl w.heap.size (stC (refuseS t_ERROR used) none 0 none 0 none 0) rfl rfl _ _ (R1.out w1 g1.out) (step_size _ _ _ _ _ _ _) rfl (step_one _ _ _ _ _ _ _) ?_))
  exact step_ret rfl (HE.out w1 g1.out).1 rfl rfl (HE.out w1 g1.out).2
end
end Go.Proofs.YtfcmnkhfmofioaaDoor
