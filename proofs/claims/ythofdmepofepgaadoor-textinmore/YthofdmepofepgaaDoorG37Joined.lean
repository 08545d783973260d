/- What the statements' examples share: bytes of a text's own, cells of a step. Conditions: none. The chapter's examples, as every statement of layer 14 asks them first. Conditions: the listed variables hold what the program's text lays. -/
import Derived.Test.YthofdmepofepgaaDoorStepT
import Derived.Lib.SlBytesConst
import Derived.Test.YthofdmepofepgaaDoorG35Joined
namespace Go.Proofs.YthofdmepofepgaaDoor
set_option linter.unusedVariables false
open Go.RowKit

theorem lit_bu (w : World) (l : List UInt8) (fz : Nat × Nat) (h1 : 1 ≤ l.length) (h2 : l.length ≤ 1000) : Bu (w.alloc (.cells (byU l).toArray 5 fz)) (some ⟨w.heap.size, 0, none⟩) l.length l.length l := by
  refine ⟨rfl, .inr ⟨w.heap.size, 0, rfl, h1, Nat.le_refl _, ints_len l, ints_byt l, fun i hi => ?_, by rw [World.size_alloc]; exact Nat.lt_succ_self _⟩, Nat.le_refl _, by unfold maxLen; omega⟩
  unfold World.cell?
  rw [World.alloc_heap_new]
  have hu := byU_get hi
  simpa using hu
theorem st_cell {w : World} {p : Nat} {s : Sv} {ca ta ka : Option Addr} {cc tc kc : Nat} {t : TypeId} (h : w.heap[p]? = some (.cells (stC s ca cc ta tc ka kc) t (0, 0))) (j : Nat) (v : Value) (hv : (stC s ca cc ta tc ka kc)[j]? = some v) : w.cell? ⟨p, j, none⟩ = some v := by
  unfold World.cell?
  rw [h]
  exact hv
theorem cell_keep {w w' : World} {p : Addr} {v : Value} (hg : w.grownBy w' none) (h : w.cell? p = some v) : w'.cell? p = some v := ((below_gr hg).cell (World.block_lt_of_cell? w _ h)).trans h
end Go.Proofs.YthofdmepofepgaaDoor

namespace Go.Proofs.YthofdmepofepgaaDoor
set_option linter.unusedVariables false
open Go.RowKit

def aw1 : List UInt8 := [103, 101, 116, 32, 97, 32, 98, 13, 10]
def aw2 : List UInt8 := [115, 101, 116, 32, 107, 32, 49, 32, 48, 32, 50, 13, 10, 120, 121, 13, 10]
def aw3 : List UInt8 := [103, 101, 116, 13, 10]
def awC : Cv := ⟨3, ⟨#[107]⟩, [120, 121], 1, 0, 0, 0, 0, false, false⟩
def awA : Cv := ⟨0, ⟨#[97]⟩, [], 0, 0, 0, 0, 0, false, false⟩
def awB : Cv := ⟨0, ⟨#[98]⟩, [], 0, 0, 0, 0, 0, false, false⟩
theorem aw1_is : (parseN aw1).req.cmds = [awA, awB] := by kernel_rfl
theorem aw2_is : (parseN aw2).req.cmds = [awC] := by kernel_rfl
theorem aw2_used : (parseN aw2).used = 17 := by kernel_rfl
theorem aw3_e : (parseN aw3).e = 2 := by kernel_rfl
theorem aw3_reply : (parseN aw3).reply = ⟨#[69, 82, 82, 79, 82, 13, 10]⟩ := by kernel_rfl
theorem aw1_call {w : World} (hL : Laid w) : Calls Tryd.prog 9 #[.slice (some ⟨w.heap.size, 0, none⟩) 9 9] (w.alloc (.cells #[.int .u8 103, .int .u8 101, .int .u8 116, .int .u8 32, .int .u8 97, .int .u8 32, .int .u8 98, .int .u8 13, .int .u8 10] 5 (9, 10))) fun e w' => ∃ ca cc ta tc ka kc, e = .returned (.agg (stC (parseN aw1) ca cc ta tc ka kc)) ∧ QAt w' (parseN aw1).req ca cc ta tc ka kc ∧ w.grownBy w' none := by
  have h := parse_any (hL.on (below_gr (World.grownBy_alloc w (.cells (byU aw1).toArray 5 (9, 10)) none))) (lit_bu w aw1 (9, 10) (by decide) (by decide)) (by decide)
  refine Calls.mono h fun e w' h => ?_
  obtain ⟨ca, cc, ta, tc, ka, kc, h1, h2, h3⟩ := h
  exact ⟨ca, cc, ta, tc, ka, kc, h1, h2 w' (fun _ _ _ => rfl) (Nat.le_refl _), gr_trans (World.grownBy_alloc w _ none) h3⟩
theorem aw2_call {w : World} (hL : Laid w) : Calls Tryd.prog 9 #[.slice (some ⟨w.heap.size, 0, none⟩) 17 17] (w.alloc (.cells #[.int .u8 115, .int .u8 101, .int .u8 116, .int .u8 32, .int .u8 107, .int .u8 32, .int .u8 49, .int .u8 32, .int .u8 48, .int .u8 32, .int .u8 50, .int .u8 13, .int .u8 10, .int .u8 120, .int .u8 121, .int .u8 13, .int .u8 10] 5 (17, 18))) fun e w' => ∃ ca cc ta tc ka kc, e = .returned (.agg (stC (parseN aw2) ca cc ta tc ka kc)) ∧ QAt w' (parseN aw2).req ca cc ta tc ka kc ∧ w.grownBy w' none := by
  have h := parse_any (hL.on (below_gr (World.grownBy_alloc w (.cells (byU aw2).toArray 5 (17, 18)) none))) (lit_bu w aw2 (17, 18) (by decide) (by decide)) (by decide)
  refine Calls.mono h fun e w' h => ?_
  obtain ⟨ca, cc, ta, tc, ka, kc, h1, h2, h3⟩ := h
  exact ⟨ca, cc, ta, tc, ka, kc, h1, h2 w' (fun _ _ _ => rfl) (Nat.le_refl _), gr_trans (World.grownBy_alloc w _ none) h3⟩
theorem aw3_call {w : World} (hL : Laid w) : Calls Tryd.prog 9 #[.slice (some ⟨w.heap.size, 0, none⟩) 5 5] (w.alloc (.cells #[.int .u8 103, .int .u8 101, .int .u8 116, .int .u8 13, .int .u8 10] 5 (5, 6))) fun e w' => ∃ ca cc ta tc ka kc, e = .returned (.agg (stC (parseN aw3) ca cc ta tc ka kc)) ∧ QAt w' (parseN aw3).req ca cc ta tc ka kc ∧ w.grownBy w' none := by
  have h := parse_any (hL.on (below_gr (World.grownBy_alloc w (.cells (byU aw3).toArray 5 (5, 6)) none))) (lit_bu w aw3 (5, 6) (by decide) (by decide)) (by decide)
  refine Calls.mono h fun e w' h => ?_
  obtain ⟨ca, cc, ta, tc, ka, kc, h1, h2, h3⟩ := h
  exact ⟨ca, cc, ta, tc, ka, kc, h1, h2 w' (fun _ _ _ => rfl) (Nat.le_refl _), gr_trans (World.grownBy_alloc w _ none) h3⟩
theorem aw_a {w : World} {ca ta ka : Option Addr} {cc tc kc : Nat} (q : QAt w (parseN aw1).req ca cc ta tc ka kc) : ∃ b off, ca = some ⟨b, off, none⟩ ∧ w.cell? ⟨b, off + 10 + 1, none⟩ = some (.string ⟨#[98]⟩) := by
  have hc := q.cmds
  rw [aw1_is] at hc
  obtain ⟨b, off, e, va, vc, h1, h2⟩ := hc.get (i := 1) (by decide)
  exact ⟨b, off, e, h1 1 _ rfl⟩
theorem aw_b {w : World} {ca ta ka : Option Addr} {cc tc kc : Nat} (q : QAt w (parseN aw2).req ca cc ta tc ka kc) : ∃ b off, ca = some ⟨b, off, none⟩ ∧ ∃ va vc, w.rangeAt b off (cmC awC va vc).toList ∧ Bu w va 2 vc [120, 121] := by
  have hc := q.cmds
  rw [aw2_is] at hc
  obtain ⟨b, off, e, va, vc, h1, h2⟩ := hc.get (i := 0) (by decide)
  refine ⟨b, off, e, va, vc, ?_, h2⟩
  have e0 : off + 0 * 10 = off := by omega
  rw [e0] at h1
  exact h1
theorem aw_x {w : World} {p : Nat} {va : Option Addr} {vc : Nat} {t : TypeId} (h : w.heap[p]? = some (.cells (cmC awC va vc) t (0, 0))) : w.cell? ⟨p, 0, none⟩ = some (.int .i64 3) ∧ w.cell? ⟨p, 1, none⟩ = some (.string ⟨#[107]⟩) ∧ w.cell? ⟨p, 2, none⟩ = some (.slice va 2 vc) ∧ w.cell? ⟨p, 3, none⟩ = some (.int .u32 1) := by
  unfold World.cell?
  rw [h]
  exact ⟨rfl, rfl, rfl, rfl⟩
theorem aw_end {w W1 W2 W3 : World} {P1 P2 P3 : Nat} {ca ta ka cb tb kb cf tf kf : Option Addr} {cc tc kc cd td kd cg tg kg : Nat} (b1 : W1.heap[P1]? = some (.cells (stC (parseN aw1) ca cc ta tc ka kc) 33 (0, 0))) (q1 : QAt W1 (parseN aw1).req ca cc ta tc ka kc) (b2 : W2.heap[P2]? = some (.cells (stC (parseN aw2) cb cd tb td kb kd) 33 (0, 0))) (q2 : QAt W2 (parseN aw2).req cb cd tb td kb kd) (b3 : W3.heap[P3]? = some (.cells (stC (parseN aw3) cf cg tf tg kf kg) 33 (0, 0))) (g1 : w.grownBy W1 none) (g2 : W1.grownBy W2 none) (g3 : W2.grownBy W3 none) :
    (∃ b off, ca = some ⟨b, off, none⟩ ∧ W3.cell? ⟨b, off + 10 + 1, none⟩ = some (.string ⟨#[98]⟩)) ∧ (∃ b off, cb = some ⟨b, off, none⟩ ∧ ∃ va vc, W3.rangeAt b off (cmC awC va vc).toList ∧ Bu W3 va 2 vc [120, 121]) ∧
    W3.cell? ⟨P1, 0, none⟩ = some (.slice ca 2 cc) ∧ W3.cell? ⟨P2, 0, none⟩ = some (.slice cb 1 cd) ∧ W3.cell? ⟨P2, 12, none⟩ = some (.int .i64 17) ∧ W3.cell? ⟨P3, 15, none⟩ = some (.int .i64 2) ∧ W3.cell? ⟨P3, 11, none⟩ = some (.string ⟨#[69, 82, 82, 79, 82, 13, 10]⟩) ∧ w.grownBy W3 none := by
  have l1 : P1 < W1.heap.size := (Array.getElem?_eq_some_iff.1 b1).1
  have l2 : P2 < W2.heap.size := (Array.getElem?_eq_some_iff.1 b2).1
  have g13 := gr_trans g2 g3
  have c1 := (g13.block P1 l1 (by simp)).trans b1
  have c2 := (g3.block P2 l2 (by simp)).trans b2
  refine ⟨aw_a (q1.on (below_gr g13)), aw_b (q2.on (below_gr g3)), ?_, ?_, ?_, ?_, ?_, gr_trans g1 g13⟩
  · rw [st_cell c1 0 (.slice ca (parseN aw1).req.cmds.length cc) rfl, aw1_is]; rfl
  · rw [st_cell c2 0 (.slice cb (parseN aw2).req.cmds.length cd) rfl, aw2_is]; rfl
  · rw [st_cell c2 12 (.int .i64 (parseN aw2).used) rfl, aw2_used]
  · rw [st_cell b3 15 (.int .i64 (parseN aw3).e) rfl, aw3_e]
  · rw [st_cell b3 11 (.string (parseN aw3).reply) rfl, aw3_reply]
set_option maxRecDepth 100000 in
set_option maxHeartbeats 4000000 in
theorem awake_any {w : World} (hL : Laid w) : Calls Tryd.prog 8 #[] w fun e w' => e = .returned (.bool true) ∧ w.grownBy w' none := by
  have kc := fun (w : World) (C : Array Value) (n c : Nat) => Lib.run_convert_bytes_const (P := Tryd.prog) w 22 5 C n c Tryd.underlying22 Tryd.underlying5
  have HL := hide hL
  have N0 : Hid (w = w) := rfl
  clear hL
  go_enter Tryd.func8, Tryd.ntmps8
  go_wp2_with (first
    | (go_at_call 9; have t := N0; clear t; refine (aw1_call HL.out).mono ?_; rintro e w1 ⟨ca, cc, ta, tc, ka, kc1, rfl, q1, g1⟩; obtain ⟨W1, hW1⟩ : ∃ W1, W1 = w1.alloc (.cells (stC (parseN aw1) ca cc ta tc ka kc1) 33) := ⟨_, rfl⟩; obtain ⟨P1, hP1⟩ : ∃ P1, P1 = w1.heap.size := ⟨_, rfl⟩; have b1 : W1.heap[P1]? = some (.cells (stC (parseN aw1) ca cc ta tc ka kc1) 33 (0, 0)) := (by rw [hW1, hP1]; exact World.alloc_heap_new _ _); have k1 : w1.grownBy W1 none := (by rw [hW1]; exact World.grownBy_alloc _ _ _); replace q1 := hide (q1.on (below_gr k1)); replace g1 := hide (gr_trans g1 k1); replace b1 := hide b1; clear N0 k1; have N1 : Hid (w = w) := rfl)
    | (have t := N1; clear t; refine wpList_store_row rfl 33 _ _ rfl w1.heap.size (stC (parseN aw1) ca cc ta tc ka kc1) rfl rfl _ _ (World.alloc_heap_new w1 _) (step_size _ _ _ _ _ _ _) rfl (step_one _ _ _ _ _ _ _) ?_; rw [setRow_alloc, ← hW1, ← hP1]; clear N1 hW1 hP1; have N2 : Hid (w = w) := rfl)
    | (go_at_call 9; have t := N2; clear t; refine (aw2_call (HL.out.on (below_gr g1.out))).mono ?_; rintro e w2 ⟨cb, cd, tb, td, kb, kd, rfl, q2, g2⟩; obtain ⟨W2, hW2⟩ : ∃ W2, W2 = w2.alloc (.cells (stC (parseN aw2) cb cd tb td kb kd) 33) := ⟨_, rfl⟩; obtain ⟨P2, hP2⟩ : ∃ P2, P2 = w2.heap.size := ⟨_, rfl⟩; have b2 : W2.heap[P2]? = some (.cells (stC (parseN aw2) cb cd tb td kb kd) 33 (0, 0)) := (by rw [hW2, hP2]; exact World.alloc_heap_new _ _); have k2 : w2.grownBy W2 none := (by rw [hW2]; exact World.grownBy_alloc _ _ _); replace q2 := hide (q2.on (below_gr k2)); replace g2 := hide (gr_trans g2 k2); replace b2 := hide b2; clear N2 k2; have N3 : Hid (w = w) := rfl)
    | (have t := N3; clear t; refine wpList_store_row rfl 33 _ _ rfl w2.heap.size (stC (parseN aw2) cb cd tb td kb kd) rfl rfl _ _ (World.alloc_heap_new w2 _) (step_size _ _ _ _ _ _ _) rfl (step_one _ _ _ _ _ _ _) ?_; rw [setRow_alloc, ← hW2, ← hP2]; clear N3 hW2 hP2; have N4 : Hid (w = w) := rfl)
    | (go_at_call 9; have t := N4; clear t; refine (aw3_call (HL.out.on (below_gr (gr_trans g1.out g2.out)))).mono ?_; rintro e w3 ⟨cf, cg, tf, tg, kf, kg, rfl, q3, g3⟩; obtain ⟨W3, hW3⟩ : ∃ W3, W3 = w3.alloc (.cells (stC (parseN aw3) cf cg tf tg kf kg) 33) := ⟨_, rfl⟩; obtain ⟨P3, hP3⟩ : ∃ P3, P3 = w3.heap.size := ⟨_, rfl⟩; have b3 : W3.heap[P3]? = some (.cells (stC (parseN aw3) cf cg tf tg kf kg) 33 (0, 0)) := (by rw [hW3, hP3]; exact World.alloc_heap_new _ _); have k3 : w3.grownBy W3 none := (by rw [hW3]; exact World.grownBy_alloc _ _ _); replace g3 := hide (gr_trans g3 k3); clear N4 k3 q3; have N5 : Hid (w = w) := rfl; replace b3 := hide b3)
    | (have t := N5; clear t; refine wpList_store_row rfl 33 _ _ rfl w3.heap.size (stC (parseN aw3) cf cg tf tg kf kg) rfl rfl _ _ (World.alloc_heap_new w3 _) (step_size _ _ _ _ _ _ _) rfl (step_one _ _ _ _ _ _ _) ?_; rw [setRow_alloc, ← hW3, ← hP3]; clear N5 hW3 hP3; obtain ⟨⟨ab, ao, rfl, c98⟩, ⟨bb, bo, rfl, va, vc, rC, vB⟩, sA, sB, sU, sE, sR, GG⟩ := aw_end b1.out q1.out b2.out q2.out b3.out g1.out g2.out g3.out; clear b1 b2 b3 q1 q2 g1 g2 g3; have VX := hide vB; replace GG := hide GG; clear vB)
    | (refine wpList_load_mid rfl 38 _ rfl bb bo rfl (cmC awC va vc).toList _ rC Tryd.underlying38 rfl (by rw [cmd_size awC va vc, Array.length_toList]) ?_)
    | (refine wpList_store_row rfl 38 _ _ rfl W3.heap.size (cmC awC va vc) rfl rfl _ _ (World.alloc_heap_new W3 _) (cmd_size _ _ _) rfl (cmd_one _ _ _) ?_; rw [setRow_alloc]; obtain ⟨W4, hW4⟩ : ∃ W4, W4 = W3.alloc (.cells (cmC awC va vc) 38) := ⟨_, rfl⟩; obtain ⟨P4, hP4⟩ : ∃ P4, P4 = W3.heap.size := ⟨_, rfl⟩; rw [← hW4, ← hP4]; have kk : W3.grownBy W4 none := (by rw [hW4]; exact World.grownBy_alloc _ _ _); have hx : W4.heap[P4]? = some (.cells (cmC awC va vc) 38 (0, 0)) := (by rw [hW4, hP4]; exact World.alloc_heap_new _ _); replace sA := cell_keep kk sA; replace sU := cell_keep kk sU; replace sE := cell_keep kk sE; replace sR := cell_keep kk sR; replace c98 := cell_keep kk c98; obtain ⟨x0, x1, x2, x3⟩ := aw_x hx; have cv := convU (VX.out.on (below_gr kk)); replace GG := hide (gr_trans GG.out kk); clear hW4 hP4 kk hx rC sB VX))
  go_ret
  exact ⟨by first | rfl | (simp; done), GG.out⟩
end Go.Proofs.YthofdmepofepgaaDoor
