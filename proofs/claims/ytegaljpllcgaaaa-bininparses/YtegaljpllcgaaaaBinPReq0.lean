/- Package binin's request: no such code, or parts that do not fit. Conditions: a code of a byte. -/
import Derived.Test.YtegaljpllcgaaaaBinPReqA
namespace Go.Proofs.Ytegaljpllcgaaaa
set_option linter.unusedVariables false
open Go.RowKit Go.Shelf

section
variable {w : World} {g off l : Nat} {bd : List UInt8}
set_option maxRecDepth 100000 in
set_option maxHeartbeats 8000000 in
theorem req_none {c o cas : Int} {x k : Nat} (hz : opP c = (0, false)) :
    Calls Try.prog 20 #[.agg (hdC c (k : Int) (x : Int) o cas), .slice (some ⟨g, off, none⟩) l l] w fun e w' => ReqE noQ 129 w e w' := by
  have HO := hide (fun (W : World) => op_any c W)
  rw [hz] at HO
  obtain ⟨V0, hV0⟩ : ∃ V0, V0 = w.alloc (.cells (hdC c (k : Int) (x : Int) o cas) 54) := ⟨_, rfl⟩
  obtain ⟨B, hB_⟩ : ∃ B, B = w.heap.size := ⟨_, rfl⟩
  have g0 : w.grownBy V0 none := by rw [hV0]; exact World.grownBy_alloc _ _ _
  have r0 : V0.heap[B]? = some (.cells (hdC c (k : Int) (x : Int) o cas) 54 (0, 0)) := by rw [hV0, hB_]; exact World.alloc_heap_new w _
  obtain ⟨V, hV⟩ : ∃ V, V = V0.alloc (.cells noRow 31) := ⟨_, rfl⟩
  obtain ⟨R, hR⟩ : ∃ R, R = V0.heap.size := ⟨_, rfl⟩
  have g1 : V0.grownBy V none := by rw [hV]; exact World.grownBy_alloc _ _ _
  have rR : V.heap[R]? = some (.cells noRow 31 (0, 0)) := by rw [hV, hR]; exact World.alloc_heap_new V0 _
  have RV := hide (Array.getElem?_eq_some_iff.1 rR).1
  have wR : Hid (w.heap.size ≤ R) := by show _ ≤ _; rw [hR]; exact g0.size
  have rB := (g1.block B (Array.getElem?_eq_some_iff.1 r0).1 (by simp)).trans r0
  have BV := hide (Array.getElem?_eq_some_iff.1 rB).1
  have gV := hide (gr_trans g0 g1)
  have k0 : V.cell? ⟨B, 0, none⟩ = some (.int .u8 c) := by unfold World.cell?; rw [rB]; rfl
  have k1 : V.cell? ⟨B, 1, none⟩ = some (.int .i64 (k : Int)) := by unfold World.cell?; rw [rB]; rfl
  have k2 : V.cell? ⟨B, 2, none⟩ = some (.int .i64 (x : Int)) := by unfold World.cell?; rw [rB]; rfl
  have hBR : B + 1 = R := by rw [hR, hV0, World.size_alloc, hB_]
  replace rR := hide rR
  replace rB := hide rB
  clear r0 g0 g1
  obtain ⟨V2, e2, r2, q2, p2⟩ := rowP1 noRow rR.out
  have GE := hide (q2 w gV.out wR.out)
  replace r2 := hide r2
  replace e2 := hide e2
  clear q2 p2
  simp only [noRow_eq] at hV
  simp only [hdC] at hV0 ⊢
  go_enter Try.func20, Try.ntmps20
  go_upto_region 1 with fail
  rw [← hV0, ← hV, ← hB_, hBR]
  clear hV0 hB_ hR hV hBR
  go_wp2_with (first
    | (go_at_call 32; refine (HO.out _).mono ?_; rintro e w1 ⟨rfl, rfl⟩)
    | (refine wpList_store_row rfl 31 _ _ rfl R noRow rfl rfl _ _ rR.out (req_size noQ none none none 0 0 0) rfl (req_one noQ none none none 0 0 0) ?_; rw [e2.out]))
  exact reqE_no rfl r2.out rfl rfl GE.out
set_option maxRecDepth 100000 in
set_option maxHeartbeats 8000000 in
theorem req_parts {c o cas : Int} {x k : Nat} {z : Int} (hz : opP c = (z, true)) (hl : l < x + k) (hx : x ≤ 255) (hk : k ≤ 65535) :
    Calls Try.prog 20 #[.agg (hdC c (k : Int) (x : Int) o cas), .slice (some ⟨g, off, none⟩) l l] w fun e w' => ReqE noQ 4 w e w' := by
  have HO := hide (fun (W : World) => op_any c W)
  rw [hz] at HO
  have e1 : wrap64 ((x : Int) + (k : Int)) = (x : Int) + (k : Int) := by unfold wrap64; omega
  have e3 : (l : Int) < (x : Int) + (k : Int) := by omega
  clear hl hx hk
  obtain ⟨V0, hV0⟩ : ∃ V0, V0 = w.alloc (.cells (hdC c (k : Int) (x : Int) o cas) 54) := ⟨_, rfl⟩
  obtain ⟨B, hB_⟩ : ∃ B, B = w.heap.size := ⟨_, rfl⟩
  have g0 : w.grownBy V0 none := by rw [hV0]; exact World.grownBy_alloc _ _ _
  have r0 : V0.heap[B]? = some (.cells (hdC c (k : Int) (x : Int) o cas) 54 (0, 0)) := by rw [hV0, hB_]; exact World.alloc_heap_new w _
  obtain ⟨V, hV⟩ : ∃ V, V = V0.alloc (.cells noRow 31) := ⟨_, rfl⟩
  obtain ⟨R, hR⟩ : ∃ R, R = V0.heap.size := ⟨_, rfl⟩
  have g1 : V0.grownBy V none := by rw [hV]; exact World.grownBy_alloc _ _ _
  have rR : V.heap[R]? = some (.cells noRow 31 (0, 0)) := by rw [hV, hR]; exact World.alloc_heap_new V0 _
  have RV := hide (Array.getElem?_eq_some_iff.1 rR).1
  have wR : Hid (w.heap.size ≤ R) := by show _ ≤ _; rw [hR]; exact g0.size
  have rB := (g1.block B (Array.getElem?_eq_some_iff.1 r0).1 (by simp)).trans r0
  have BV := hide (Array.getElem?_eq_some_iff.1 rB).1
  have gV := hide (gr_trans g0 g1)
  have k0 : V.cell? ⟨B, 0, none⟩ = some (.int .u8 c) := by unfold World.cell?; rw [rB]; rfl
  have k1 : V.cell? ⟨B, 1, none⟩ = some (.int .i64 (k : Int)) := by unfold World.cell?; rw [rB]; rfl
  have k2 : V.cell? ⟨B, 2, none⟩ = some (.int .i64 (x : Int)) := by unfold World.cell?; rw [rB]; rfl
  have hBR : B + 1 = R := by rw [hR, hV0, World.size_alloc, hB_]
  replace rR := hide rR
  replace rB := hide rB
  clear r0 g0 g1
  obtain ⟨V2, e2, r2, q2, p2⟩ := rowP1 noRow rR.out
  have GE := hide (q2 w gV.out wR.out)
  replace r2 := hide r2
  replace e2 := hide e2
  clear q2 p2
  simp only [noRow_eq] at hV
  simp only [hdC] at hV0 ⊢
  go_enter Try.func20, Try.ntmps20
  go_upto_region 1 with fail
  rw [← hV0, ← hV, ← hB_, hBR]
  clear hV0 hB_ hR hV hBR
  go_wp2_with (first
    | (go_at_call 32; refine (HO.out _).mono ?_; rintro e w1 ⟨rfl, rfl⟩)
    | (refine wpList_store_row rfl 31 _ _ rfl R noRow rfl rfl _ _ rR.out (req_size noQ none none none 0 0 0) rfl (req_one noQ none none none 0 0 0) ?_; rw [e2.out]))
  exact reqE_no rfl r2.out rfl rfl GE.out
end
end Go.Proofs.Ytegaljpllcgaaaa
