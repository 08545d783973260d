/- BinoutReads returns true for all bytes, and writes nothing that was there. Conditions: what the package is asked for. -/
import Derived.Test.YtaafkefgpgoepaaBoAw
import Derived.Test.YtaafkefgpgoepaaBoR
namespace Go.Proofs.Ytaafkefgpgoepaa
set_option linter.unusedVariables false
set_option linter.unusedSimpArgs false
open Go.RowKit Go.Shelf

section
set_option maxRecDepth 100000 in
set_option maxHeartbeats 4000000 in
theorem binoutReads_lib (L : BoLib) (W : World) (a0 : Option Addr) (len0 cap0 : Nat) (z0 : List Int) (w0 : IsRow .u8 W a0 len0 cap0 z0) :
    Calls Try.prog 4 #[.slice a0 len0 cap0] W fun e W' => e = .returned (.bool true) ∧ Below W.heap.size W W' := by
  obtain ⟨u, hu⟩ := Bu.of w0
  clear w0
  have hn := hu.n
  by_cases h : 5000 < len0
  · have hi : (5000 : Int) < (len0 : Int) := by omega
    clear h hn
    go_enter Try.func4, Try.ntmps4
    go_wp2_with (go_at_call 8; refine (awake_any L).mono ?_; rintro e w2 ⟨rfl, g2⟩; replace g2 := hide g2)
    go_ret
    exact ⟨rfl, below_gr g2.out⟩
  · have hi : ¬ (5000 : Int) < (len0 : Int) := by omega
    obtain ⟨A, hA⟩ := reads_some u
    have HR := hide (fun (V : World) (g : W.grownBy V none) => L.read V a0 len0 cap0 u A (hu.on (below_gr g)) (by omega) hA)
    have HF := hide (fun (V : World) (g : W.grownBy V none) => rread_any (hu.on (below_gr g)) hA)
    obtain ⟨Ac, As, Ao, Aq, Ax, Ak, Av_, Au⟩ := A
    clear hu hA hn h
    go_enter Try.func4, Try.ntmps4
    go_wp2_with (first
      | (go_at_call 8; refine (awake_any L).mono ?_; rintro e w2 ⟨rfl, g2⟩; replace g2 := hide g2)
      | (go_at_call 14; refine (HR.out _ g2.out).mono ?_; rintro e w3 ⟨xa, xc, ka, kc, va, vc, rfl, bx, bk, bv, g3⟩; obtain ⟨W3, hW3⟩ : ∃ W3, W3 = w3.alloc (.cells (ptC ⟨Ac, As, Ao, Aq, Ax, Ak, Av_, Au⟩ xa xc ka kc va vc) 38) := ⟨_, rfl⟩; obtain ⟨P3, hP3⟩ : ∃ P3, P3 = w3.heap.size := ⟨_, rfl⟩; have h3 : W3.heap[P3]? = some (.cells (ptC ⟨Ac, As, Ao, Aq, Ax, Ak, Av_, Au⟩ xa xc ka kc va vc) 38 (0, 0)) := (by rw [hW3, hP3]; exact World.alloc_heap_new _ _); have k3 : w3.grownBy W3 none := (by rw [hW3]; exact World.grownBy_alloc _ _ _); have B3 := hide (And.intro h3 (And.intro (bx.on (below_gr k3)) (And.intro (bk.on (below_gr k3)) (bv.on (below_gr k3))))); have G3 := hide (gr_trans g2.out (gr_trans g3 k3)); clear bx bk bv g3 k3 h3 g2 HR)
      | (refine wpList_store_row rfl 38 _ _ rfl w3.heap.size (ptC ⟨Ac, As, Ao, Aq, Ax, Ak, Av_, Au⟩ xa xc ka kc va vc) rfl rfl _ _ (World.alloc_heap_new w3 _) (pt_size _ _ _ _ _ _ _) rfl (pt_one _ _ _ _ _ _ _) ?_; rw [setRow_alloc, ← hW3, ← hP3]; clear hW3 hP3)
      | (go_at_call 15; refine (HF.out _ G3.out).mono ?_; rintro e w4 ⟨ya, yc, la, lc, ma, mc, rfl, by_, bl, bm, g4⟩; obtain ⟨W4, hW4⟩ : ∃ W4, W4 = w4.alloc (.cells (avC ⟨Ac, As, Ao, Aq, Ax, Ak, Av_, Au⟩ ya yc la lc ma mc) 42) := ⟨_, rfl⟩; obtain ⟨P4, hP4⟩ : ∃ P4, P4 = w4.heap.size := ⟨_, rfl⟩; have h4 : W4.heap[P4]? = some (.cells (avC ⟨Ac, As, Ao, Aq, Ax, Ak, Av_, Au⟩ ya yc la lc ma mc) 42 (0, 0)) := (by rw [hW4, hP4]; exact World.alloc_heap_new _ _); have k4 : w4.grownBy W4 none := (by rw [hW4]; exact World.grownBy_alloc _ _ _); have j4 := gr_trans g4 k4; have h3 := (j4.block P3 (Array.getElem?_eq_some_iff.1 B3.out.1).1 (by simp)).trans B3.out.1; have q0 := convB (B3.out.2.1.on (below_gr j4)); have q1 := convB (B3.out.2.2.1.on (below_gr j4)); have q2 := convB (B3.out.2.2.2.on (below_gr j4)); have r0 := convB (by_.on (below_gr k4)); have r1 := convB (bl.on (below_gr k4)); have r2 := convB (bm.on (below_gr k4)); have c0 : W4.cell? ⟨P3, 0, none⟩ = some (.slice xa Ax.length xc) := cellE h3 0 _ rfl; have c1 : W4.cell? ⟨P3, 1, none⟩ = some (.slice ka Ak.length kc) := cellE h3 1 _ rfl; have c2 : W4.cell? ⟨P3, 2, none⟩ = some (.slice va Av_.length vc) := cellE h3 2 _ rfl; have d0 : W4.cell? ⟨P4, 0, none⟩ = some (.int .i64 Ac) := cellE h4 0 _ rfl; have d1 : W4.cell? ⟨P4, 1, none⟩ = some (.int .u16 As) := cellE h4 1 _ rfl; have d2 : W4.cell? ⟨P4, 2, none⟩ = some (.int .u32 Ao) := cellE h4 2 _ rfl; have d3 : W4.cell? ⟨P4, 3, none⟩ = some (.int .u64 Aq) := cellE h4 3 _ rfl; have d4 : W4.cell? ⟨P4, 4, none⟩ = some (.slice ya Ax.length yc) := cellE h4 4 _ rfl; have d5 : W4.cell? ⟨P4, 5, none⟩ = some (.slice la Ak.length lc) := cellE h4 5 _ rfl; have d6 : W4.cell? ⟨P4, 6, none⟩ = some (.slice ma Av_.length mc) := cellE h4 6 _ rfl; have d7 : W4.cell? ⟨P4, 7, none⟩ = some (.int .i64 Au) := cellE h4 7 _ rfl; have G4 := hide (gr_trans G3.out j4); clear by_ bl bm g4 k4 j4 h3 h4 B3 G3 HF)
      | (refine wpList_store_row rfl 42 _ _ rfl w4.heap.size (avC ⟨Ac, As, Ao, Aq, Ax, Ak, Av_, Au⟩ ya yc la lc ma mc) rfl rfl _ _ (World.alloc_heap_new w4 _) (av_size _ _ _ _ _ _ _) rfl (av_one _ _ _ _ _ _ _) ?_; rw [setRow_alloc, ← hW4, ← hP4]; clear hW4 hP4))
    go_ret
    exact ⟨by first | rfl | (simp; done), below_gr G4.out⟩
end
end Go.Proofs.Ytaafkefgpgoepaa
