/- TextinSane, where more must come, and where there are too many bytes. Conditions: the listed variables hold what the program's text lays. -/
import Derived.Test.YthofdmepofepgaaDoorG40Joined
import Derived.Test.YthofdmepofepgaaDoorTextMay
namespace Go.Proofs.YthofdmepofepgaaDoor
set_option linter.unusedVariables false
open Go.RowKit

section
variable {W : World} {a : Option Addr} {len cap : Nat} {u : List UInt8}
set_option maxRecDepth 100000 in
set_option maxHeartbeats 2000000 in
theorem sane_more (hL : Laid W) (hu : Bu W a len cap u) (hl : len ≤ 5000) (hm : parseN u = moreS) : Calls Tryd.prog 3 #[.slice a len cap] W fun e W' => e = .returned (.bool true) ∧ Below W.heap.size W W' := by
  have hli : ¬ (5000 : Int) < (len : Int) := by omega
  have hl0 : ¬ (len : Int) < 0 := by omega
  have HP := hide (fun (w : World) (h : Below W.heap.size W w) => parse_any (hL.on h) (hu.on h) (by omega))
  rw [hm] at HP
  clear hm hu hl
  go_enter Tryd.func3, Tryd.ntmps3
  go_wp2_with (first
    | (go_at_call 8; refine (awake_any hL).mono ?_; rintro e w1 ⟨rfl, g1⟩; have B1 := hide (below_gr g1); clear g1)
    | (have t := B1; clear t; go_at_call 9; refine (HP.out _ B1.out).mono ?_; rintro e w2 ⟨ca, cc, ta, tc, ka, kc, rfl, q1, g2⟩; obtain ⟨W2, hW2⟩ : ∃ W2, W2 = w2.alloc (.cells (stC moreS ca cc ta tc ka kc) 33) := ⟨_, rfl⟩; obtain ⟨P1, hP1⟩ : ∃ P1, P1 = w2.heap.size := ⟨_, rfl⟩; clear q1; have BW := hide (Bt B1.out (below_gr (gr_trans g2 (World.grownBy_alloc w2 (.cells (stC moreS ca cc ta tc ka kc) 33) none)))); clear B1 HP g2; have N1 : Hid (W = W) := rfl)
    | (have t := N1; clear t; refine wpList_store_row rfl 33 _ _ rfl w2.heap.size (stC moreS ca cc ta tc ka kc) rfl rfl _ _ (World.alloc_heap_new w2 _) (step_size _ _ _ _ _ _ _) rfl (step_one _ _ _ _ _ _ _) ?_; have X1 : W2.heap[P1]? = some (.cells (stC moreS ca cc ta tc ka kc) 33 (0, 0)) := (by rw [hW2, hP1]; exact World.alloc_heap_new _ _); rw [setRow_alloc, ← hW2, ← hP1]; rw [← hW2] at BW; clear N1 hW2 hP1; have y0 : W2.cell? ⟨P1, 0, none⟩ = some (.slice ca 0 cc) := st_at X1 0 _ rfl; have y1 : W2.cell? ⟨P1, 11, none⟩ = some (.string ⟨#[]⟩) := st_at X1 11 _ rfl; have y2 : W2.cell? ⟨P1, 12, none⟩ = some (.int .i64 0) := st_at X1 12 _ rfl; have y3 : W2.cell? ⟨P1, 13, none⟩ = some (.int .i64 0) := st_at X1 13 _ rfl; have y4 : W2.cell? ⟨P1, 15, none⟩ = some (.int .i64 3) := st_at X1 15 _ rfl; clear X1))
  go_ret
  exact ⟨by first | rfl | (simp; done), BW.out⟩
set_option maxRecDepth 100000 in
set_option maxHeartbeats 1000000 in
theorem sane_far (hL : Laid W) (h : 5000 < len) : Calls Tryd.prog 3 #[.slice a len cap] W fun e W' => e = .returned (.bool true) ∧ Below W.heap.size W W' := by
  have hsi : (5000 : Int) < (len : Int) := by omega
  clear h
  go_enter Tryd.func3, Tryd.ntmps3
  go_wp2_with (go_at_call 8; refine (awake_any hL).mono ?_; rintro e w1 ⟨rfl, g1⟩; replace g1 := hide g1)
  go_ret
  exact ⟨rfl, below_gr g1.out⟩
end
end Go.Proofs.YthofdmepofepgaaDoor
