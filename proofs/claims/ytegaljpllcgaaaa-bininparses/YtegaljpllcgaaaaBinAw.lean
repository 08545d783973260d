/- The chapter's examples, as every statement of layer 16 asks them first. Conditions: none. -/
import Derived.Test.YtegaljpllcgaaaaBinPPar
import Derived.Test.YtegaljpllcgaaaaBinFault
import Derived.Test.YtegaljpllcgaaaaG21Joined
namespace Go.Proofs.Ytegaljpllcgaaaa
set_option linter.unusedVariables false
open Go.RowKit

theorem lit_bu (w : World) (l : List UInt8) (fz : Nat × Nat) (h1 : 1 ≤ l.length) (h2 : l.length ≤ 1000) : Bu (w.alloc (.cells (byU l).toArray 5 fz)) (some ⟨w.heap.size, 0, none⟩) l.length l.length l := by
  refine ⟨rfl, .inr ⟨w.heap.size, 0, rfl, h1, Nat.le_refl _, ints_len l, ints_byt l, fun i hi => ?_, by rw [World.size_alloc]; exact Nat.lt_succ_self _⟩, Nat.le_refl _, by unfold maxLen; omega⟩
  unfold World.cell?
  rw [World.alloc_heap_new]
  have hu := byU_get hi
  simpa using hu
/-- Parse's answer, its parts told. -/
theorem pcall {w w0 : World} {a : Option Addr} {len cap : Nat} {b : List UInt8} {s : Sv} (g : w0.grownBy w none) (h : Bu w a len cap b) (hl : len ≤ 100000) (hs : parse16 b = s) : Calls Try.prog 11 #[.slice a len cap] w fun e w' => ∃ ca cc ta tc ka kc, e = .returned (.agg (stC s ca cc ta tc ka kc)) ∧ QAt w' s.req ca cc ta tc ka kc ∧ w0.grownBy w' none := by
  refine Calls.mono (ppar_any h hl) fun e w' h => ?_
  obtain ⟨cs, h1, ⟨ca, cc, ta, tc, ka, kc, h2, h3⟩, h4⟩ := h
  subst hs h2
  exact ⟨ca, cc, ta, tc, ka, kc, h1, h3, gr_trans g h4⟩
def aw1 : List UInt8 := [128, 10, 0, 0, 0, 0, 0, 0, 0, 0, 0, 0, 0, 0, 0, 0, 0, 0, 0, 0, 0, 0, 0, 0]
def aw2 : List UInt8 := [127]
def awS : Sv := ⟨⟨[⟨14, ⟨#[]⟩, [], 0, 0, 0, 0, 0, false, false⟩], ⟨2, ⟨#[]⟩, 10, 0, false, false, ⟨#[]⟩, [], [], false⟩⟩, ⟨#[]⟩, 24, 0, false, 0⟩
theorem aw1_is : parse16 aw1 = awS := by kernel_rfl
theorem aw2_is : parse16 aw2 = bareB 9 := by kernel_rfl
theorem aw1_call {w : World} : Calls Try.prog 11 #[.slice (some ⟨w.heap.size, 0, none⟩) 24 24] (w.alloc (.cells #[.int .u8 128, .int .u8 10, .int .u8 0, .int .u8 0, .int .u8 0, .int .u8 0, .int .u8 0, .int .u8 0, .int .u8 0, .int .u8 0, .int .u8 0, .int .u8 0, .int .u8 0, .int .u8 0, .int .u8 0, .int .u8 0, .int .u8 0, .int .u8 0, .int .u8 0, .int .u8 0, .int .u8 0, .int .u8 0, .int .u8 0, .int .u8 0] 5)) fun e w' => ∃ ca cc ta tc ka kc, e = .returned (.agg (stC awS ca cc ta tc ka kc)) ∧ QAt w' awS.req ca cc ta tc ka kc ∧ w.grownBy w' none :=
  pcall (World.grownBy_alloc w _ none) (lit_bu w aw1 (0, 0) (by decide) (by decide)) (by decide) aw1_is
theorem aw2_call {w : World} : Calls Try.prog 11 #[.slice (some ⟨w.heap.size, 0, none⟩) 1 1] (w.alloc (.cells #[.int .u8 127] 5)) fun e w' => ∃ ca cc ta tc ka kc, e = .returned (.agg (stC (bareB 9) ca cc ta tc ka kc)) ∧ QAt w' (bareB 9).req ca cc ta tc ka kc ∧ w.grownBy w' none :=
  pcall (World.grownBy_alloc w _ none) (lit_bu w aw2 (0, 0) (by decide) (by decide)) (by decide) aw2_is
theorem aw_end {w W1 W2 : World} {P1 P2 : Nat} {ca ta ka cb tb kb : Option Addr} {cc tc kc cd td kd : Nat} (b1 : W1.heap[P1]? = some (.cells (stC awS ca cc ta tc ka kc) 34 (0, 0))) (q1 : QAt W1 awS.req ca cc ta tc ka kc) (b2 : W2.heap[P2]? = some (.cells (stC (bareB 9) cb cd tb td kb kd) 34 (0, 0))) (g1 : w.grownBy W1 none) (g2 : W1.grownBy W2 none) :
    (∃ b off, ca = some ⟨b, off, none⟩ ∧ W2.cell? ⟨b, off, none⟩ = some (.int .i64 14)) ∧ W2.cell? ⟨P1, 0, none⟩ = some (.slice ca 1 cc) ∧ W2.cell? ⟨P1, 12, none⟩ = some (.int .i64 24) ∧ W2.cell? ⟨P1, 15, none⟩ = some (.int .i64 0) ∧ W2.cell? ⟨P2, 15, none⟩ = some (.int .i64 9) ∧ w.grownBy W2 none := by
  have l1 : P1 < W1.heap.size := (Array.getElem?_eq_some_iff.1 b1).1
  have c1 := (g2.block P1 l1 (by simp)).trans b1
  obtain ⟨b, off, e, va, vc, h1, h2⟩ := (q1.on (below_gr g2)).cmds.get (i := 0) (by decide)
  have h3 := h1 0 (.int .i64 14) rfl
  exact ⟨⟨b, off, e, by simpa using h3⟩, st_at c1 0 _ rfl, st_at c1 12 _ rfl, st_at c1 15 _ rfl, st_at b2 15 _ rfl, gr_trans g1 g2⟩
set_option maxRecDepth 100000 in
set_option maxHeartbeats 4000000 in
theorem awake_any {w : World} : Calls Try.prog 9 #[] w fun e w' => e = .returned (.bool true) ∧ w.grownBy w' none := by
  have M := make24
  have N0 : Hid (w = w) := rfl
  go_enter Try.func9, Try.ntmps9
  go_wp2_with (first
    | (go_at_call 11; have t := N0; clear t; refine aw1_call.mono ?_; rintro e w1 ⟨ca, cc, ta, tc, ka, kc1, rfl, q1, g1⟩; obtain ⟨W1, hW1⟩ : ∃ W1, W1 = w1.alloc (.cells (stC awS ca cc ta tc ka kc1) 34) := ⟨_, rfl⟩; obtain ⟨P1, hP1⟩ : ∃ P1, P1 = w1.heap.size := ⟨_, rfl⟩; have b1 : W1.heap[P1]? = some (.cells (stC awS ca cc ta tc ka kc1) 34 (0, 0)) := (by rw [hW1, hP1]; exact World.alloc_heap_new _ _); have k1 : w1.grownBy W1 none := (by rw [hW1]; exact World.grownBy_alloc _ _ _); replace q1 := hide (q1.on (below_gr k1)); replace g1 := hide (gr_trans g1 k1); replace b1 := hide b1; clear N0 k1 M; have N1 : Hid (w = w) := rfl)
    | (have t := N1; clear t; refine wpList_store_row rfl 34 _ _ rfl w1.heap.size (stC awS ca cc ta tc ka kc1) rfl rfl _ _ (World.alloc_heap_new w1 _) (step_size _ _ _ _ _ _ _) rfl (step_one _ _ _ _ _ _ _) ?_; rw [setRow_alloc, ← hW1, ← hP1]; clear N1 hW1 hP1; have N2 : Hid (w = w) := rfl)
    | (go_at_call 11; have t := N2; clear t; refine aw2_call.mono ?_; rintro e w2 ⟨cb, cd, tb, td, kb, kd, rfl, q2, g2⟩; obtain ⟨W2, hW2⟩ : ∃ W2, W2 = w2.alloc (.cells (stC (bareB 9) cb cd tb td kb kd) 34) := ⟨_, rfl⟩; obtain ⟨P2, hP2⟩ : ∃ P2, P2 = w2.heap.size := ⟨_, rfl⟩; have b2 : W2.heap[P2]? = some (.cells (stC (bareB 9) cb cd tb td kb kd) 34 (0, 0)) := (by rw [hW2, hP2]; exact World.alloc_heap_new _ _); have k2 : w2.grownBy W2 none := (by rw [hW2]; exact World.grownBy_alloc _ _ _); replace g2 := hide (gr_trans g2 k2); replace b2 := hide b2; clear N2 k2 q2; have N3 : Hid (w = w) := rfl)
    | (have t := N3; clear t; refine wpList_store_row rfl 34 _ _ rfl w2.heap.size (stC (bareB 9) cb cd tb td kb kd) rfl rfl _ _ (World.alloc_heap_new w2 _) (step_size _ _ _ _ _ _ _) rfl (step_one _ _ _ _ _ _ _) ?_; rw [setRow_alloc, ← hW2, ← hP2]; clear N3 hW2 hP2; obtain ⟨⟨ab, ao, rfl, c14⟩, sA, sU, sE, sQ, GG⟩ := aw_end b1.out q1.out b2.out g1.out g2.out; clear b1 b2 q1 g1 g2; replace GG := hide GG))
  go_ret
  exact ⟨by first | rfl | (simp; done), GG.out⟩
end Go.Proofs.Ytegaljpllcgaaaa
