/- What the statements' examples share: bytes of a text's own, cells of a step. Conditions: none. The chapter's examples, as every statement of layer 14 asks them first. Conditions: the listed variables hold what the program's text lays. Two steps held against each other by the statements' own helper. Conditions: at most 1000000 commands, keys and tokens. Lines that are put together, and requests with nothing in them. Conditions: none. Plain facts of chapter 14's step: lines that are put together, and what hangs on the bytes that a line takes. Conditions: none. Two requests of which one has more commands. Conditions: none. Bytes that were made of a text, and what is appended to them: a row of one's own, told by its cells, of which none is frozen. Conditions: appends of at most 100000000 bytes. Two steps that were parsed, each in a block of its own; texts put together. Conditions: none. TextinEnds returns true for every text, and writes nothing that was there. Conditions: the listed variables hold what the program's text lays. Plain facts of numbers: a number comes back from its digits, and from its last bytes, the highest first. Conditions: none. -/
import Derived.Test.YtfcmnkhfmofioaaDoorG11Joined
import Derived.Lib.SlBytesConst
import Derived.Test.YtfcmnkhfmofioaaDoorG09Joined
import Derived.Test.YtfcmnkhfmofioaaDoorG02Joined
import Derived.Deep.AppendSrc
import Derived.Laws.IdiomCopy
import Derived.Test.YtfcmnkhfmofioaaDoorG01Joined
namespace Go.Proofs.YtfcmnkhfmofioaaDoor
set_option linter.unusedVariables false
open Go.RowKit

theorem lit_bu (w : World) (l : List UInt8) (fz : Nat × Nat) (h1 : 1 ≤ l.length) (h2 : l.length ≤ 1000) : Bu (w.alloc (.cells (byU l).toArray 5 fz)) (some ⟨w.heap.size, 0, none⟩) l.length l.length l := by
  refine ⟨rfl, .inr ⟨w.heap.size, 0, rfl, h1, Nat.le_refl _, ints_len l, ints_byt l, fun i hi => ?_, by rw [World.size_alloc]; exact Nat.lt_succ_self _⟩, Nat.le_refl _, by unfold maxLen; omega⟩
  unfold World.cell?
  rw [World.alloc_heap_new]
  have hu := byU_get hi
  simpa using hu
theorem st_cell {w : World} {p : Nat} {s : Sv} {ca ta ka : Option Addr} {cc tc kc : Nat} {t : TypeId} (h : w.heap[p]? = some (.cells (stC s ca cc ta tc ka kc) t (0, 0))) (j : Nat) (v : Value) (hv : (stC s ca cc ta tc ka kc)[j]? = some v) : w.cell? ⟨p, j, none⟩ = some v := by
  unfold World.cell?
  rw [h]
  exact hv
theorem cell_keep {w w' : World} {p : Addr} {v : Value} (hg : w.grownBy w' none) (h : w.cell? p = some v) : w'.cell? p = some v := ((below_gr hg).cell (World.block_lt_of_cell? w _ h)).trans h
end Go.Proofs.YtfcmnkhfmofioaaDoor

namespace Go.Proofs.YtfcmnkhfmofioaaDoor
set_option linter.unusedVariables false
open Go.RowKit

def aw1 : List UInt8 := [103, 101, 116, 32, 97, 32, 98, 13, 10]
def aw2 : List UInt8 := [115, 101, 116, 32, 107, 32, 49, 32, 48, 32, 50, 13, 10, 120, 121, 13, 10]
def aw3 : List UInt8 := [103, 101, 116, 13, 10]
def awC : Cv := ⟨3, ⟨#[107]⟩, [120, 121], 1, 0, 0, 0, 0, false, false⟩
def awA : Cv := ⟨0, ⟨#[97]⟩, [], 0, 0, 0, 0, 0, false, false⟩
def awB : Cv := ⟨0, ⟨#[98]⟩, [], 0, 0, 0, 0, 0, false, false⟩
theorem aw1_is : (parseN aw1).req.cmds = [awA, awB] := by kernel_rfl
theorem aw2_is : (parseN aw2).req.cmds = [awC] := by kernel_rfl
theorem aw2_used : (parseN aw2).used = 17 := by kernel_rfl
theorem aw3_e : (parseN aw3).e = 2 := by kernel_rfl
theorem aw3_reply : (parseN aw3).reply = ⟨#[69, 82, 82, 79, 82, 13, 10]⟩ := by kernel_rfl
theorem aw1_call {w : World} (hL : Laid w) : Calls Tryd.prog 7 #[.slice (some ⟨w.heap.size, 0, none⟩) 9 9] (w.alloc (.cells #[.int .u8 103, .int .u8 101, .int .u8 116, .int .u8 32, .int .u8 97, .int .u8 32, .int .u8 98, .int .u8 13, .int .u8 10] 5 (9, 10))) fun e w' => ∃ ca cc ta tc ka kc, e = .returned (.agg (stC (parseN aw1) ca cc ta tc ka kc)) ∧ QAt w' (parseN aw1).req ca cc ta tc ka kc ∧ w.grownBy w' none := by
  have h := parse_any (hL.on (below_gr (World.grownBy_alloc w (.cells (byU aw1).toArray 5 (9, 10)) none))) (lit_bu w aw1 (9, 10) (by decide) (by decide)) (by decide)
  refine Calls.mono h fun e w' h => ?_
  obtain ⟨ca, cc, ta, tc, ka, kc, h1, h2, h3⟩ := h
  exact ⟨ca, cc, ta, tc, ka, kc, h1, h2 w' (fun _ _ _ => rfl) (Nat.le_refl _), gr_trans (World.grownBy_alloc w _ none) h3⟩
theorem aw2_call {w : World} (hL : Laid w) : Calls Tryd.prog 7 #[.slice (some ⟨w.heap.size, 0, none⟩) 17 17] (w.alloc (.cells #[.int .u8 115, .int .u8 101, .int .u8 116, .int .u8 32, .int .u8 107, .int .u8 32, .int .u8 49, .int .u8 32, .int .u8 48, .int .u8 32, .int .u8 50, .int .u8 13, .int .u8 10, .int .u8 120, .int .u8 121, .int .u8 13, .int .u8 10] 5 (17, 18))) fun e w' => ∃ ca cc ta tc ka kc, e = .returned (.agg (stC (parseN aw2) ca cc ta tc ka kc)) ∧ QAt w' (parseN aw2).req ca cc ta tc ka kc ∧ w.grownBy w' none := by
  have h := parse_any (hL.on (below_gr (World.grownBy_alloc w (.cells (byU aw2).toArray 5 (17, 18)) none))) (lit_bu w aw2 (17, 18) (by decide) (by decide)) (by decide)
  refine Calls.mono h fun e w' h => ?_
  obtain ⟨ca, cc, ta, tc, ka, kc, h1, h2, h3⟩ := h
  exact ⟨ca, cc, ta, tc, ka, kc, h1, h2 w' (fun _ _ _ => rfl) (Nat.le_refl _), gr_trans (World.grownBy_alloc w _ none) h3⟩
theorem aw3_call {w : World} (hL : Laid w) : Calls Tryd.prog 7 #[.slice (some ⟨w.heap.size, 0, none⟩) 5 5] (w.alloc (.cells #[.int .u8 103, .int .u8 101, .int .u8 116, .int .u8 13, .int .u8 10] 5 (5, 6))) fun e w' => ∃ ca cc ta tc ka kc, e = .returned (.agg (stC (parseN aw3) ca cc ta tc ka kc)) ∧ QAt w' (parseN aw3).req ca cc ta tc ka kc ∧ w.grownBy w' none := by
  have h := parse_any (hL.on (below_gr (World.grownBy_alloc w (.cells (byU aw3).toArray 5 (5, 6)) none))) (lit_bu w aw3 (5, 6) (by decide) (by decide)) (by decide)
  refine Calls.mono h fun e w' h => ?_
  obtain ⟨ca, cc, ta, tc, ka, kc, h1, h2, h3⟩ := h
  exact ⟨ca, cc, ta, tc, ka, kc, h1, h2 w' (fun _ _ _ => rfl) (Nat.le_refl _), gr_trans (World.grownBy_alloc w _ none) h3⟩
theorem aw_a {w : World} {ca ta ka : Option Addr} {cc tc kc : Nat} (q : QAt w (parseN aw1).req ca cc ta tc ka kc) : ∃ b off, ca = some ⟨b, off, none⟩ ∧ w.cell? ⟨b, off + 10 + 1, none⟩ = some (.string ⟨#[98]⟩) := by
  have hc := q.cmds
  rw [aw1_is] at hc
  obtain ⟨b, off, e, va, vc, h1, h2⟩ := hc.get (i := 1) (by decide)
  exact ⟨b, off, e, h1 1 _ rfl⟩
theorem aw_b {w : World} {ca ta ka : Option Addr} {cc tc kc : Nat} (q : QAt w (parseN aw2).req ca cc ta tc ka kc) : ∃ b off, ca = some ⟨b, off, none⟩ ∧ ∃ va vc, w.rangeAt b off (cmC awC va vc).toList ∧ Bu w va 2 vc [120, 121] := by
  have hc := q.cmds
  rw [aw2_is] at hc
  obtain ⟨b, off, e, va, vc, h1, h2⟩ := hc.get (i := 0) (by decide)
  refine ⟨b, off, e, va, vc, ?_, h2⟩
  have e0 : off + 0 * 10 = off := by omega
  rw [e0] at h1
  exact h1
theorem aw_x {w : World} {p : Nat} {va : Option Addr} {vc : Nat} {t : TypeId} (h : w.heap[p]? = some (.cells (cmC awC va vc) t (0, 0))) : w.cell? ⟨p, 0, none⟩ = some (.int .i64 3) ∧ w.cell? ⟨p, 1, none⟩ = some (.string ⟨#[107]⟩) ∧ w.cell? ⟨p, 2, none⟩ = some (.slice va 2 vc) ∧ w.cell? ⟨p, 3, none⟩ = some (.int .u32 1) := by
  unfold World.cell?
  rw [h]
  exact ⟨rfl, rfl, rfl, rfl⟩
theorem aw_end {w W1 W2 W3 : World} {P1 P2 P3 : Nat} {ca ta ka cb tb kb cf tf kf : Option Addr} {cc tc kc cd td kd cg tg kg : Nat} (b1 : W1.heap[P1]? = some (.cells (stC (parseN aw1) ca cc ta tc ka kc) 34 (0, 0))) (q1 : QAt W1 (parseN aw1).req ca cc ta tc ka kc) (b2 : W2.heap[P2]? = some (.cells (stC (parseN aw2) cb cd tb td kb kd) 34 (0, 0))) (q2 : QAt W2 (parseN aw2).req cb cd tb td kb kd) (b3 : W3.heap[P3]? = some (.cells (stC (parseN aw3) cf cg tf tg kf kg) 34 (0, 0))) (g1 : w.grownBy W1 none) (g2 : W1.grownBy W2 none) (g3 : W2.grownBy W3 none) :
    (∃ b off, ca = some ⟨b, off, none⟩ ∧ W3.cell? ⟨b, off + 10 + 1, none⟩ = some (.string ⟨#[98]⟩)) ∧ (∃ b off, cb = some ⟨b, off, none⟩ ∧ ∃ va vc, W3.rangeAt b off (cmC awC va vc).toList ∧ Bu W3 va 2 vc [120, 121]) ∧
    W3.cell? ⟨P1, 0, none⟩ = some (.slice ca 2 cc) ∧ W3.cell? ⟨P2, 0, none⟩ = some (.slice cb 1 cd) ∧ W3.cell? ⟨P2, 12, none⟩ = some (.int .i64 17) ∧ W3.cell? ⟨P3, 15, none⟩ = some (.int .i64 2) ∧ W3.cell? ⟨P3, 11, none⟩ = some (.string ⟨#[69, 82, 82, 79, 82, 13, 10]⟩) ∧ w.grownBy W3 none := by
  have l1 : P1 < W1.heap.size := (Array.getElem?_eq_some_iff.1 b1).1
  have l2 : P2 < W2.heap.size := (Array.getElem?_eq_some_iff.1 b2).1
  have g13 := gr_trans g2 g3
  have c1 := (g13.block P1 l1 (by simp)).trans b1
  have c2 := (g3.block P2 l2 (by simp)).trans b2
  refine ⟨aw_a (q1.on (below_gr g13)), aw_b (q2.on (below_gr g3)), ?_, ?_, ?_, ?_, ?_, gr_trans g1 g13⟩
  · rw [st_cell c1 0 (.slice ca (parseN aw1).req.cmds.length cc) rfl, aw1_is]; rfl
  · rw [st_cell c2 0 (.slice cb (parseN aw2).req.cmds.length cd) rfl, aw2_is]; rfl
  · rw [st_cell c2 12 (.int .i64 (parseN aw2).used) rfl, aw2_used]
  · rw [st_cell b3 15 (.int .i64 (parseN aw3).e) rfl, aw3_e]
  · rw [st_cell b3 11 (.string (parseN aw3).reply) rfl, aw3_reply]
set_option maxRecDepth 100000 in
set_option maxHeartbeats 4000000 in
theorem awake_any {w : World} (hL : Laid w) : Calls Tryd.prog 5 #[] w fun e w' => e = .returned (.bool true) ∧ w.grownBy w' none := by
  have kc := fun (w : World) (C : Array Value) (n c : Nat) => Lib.run_convert_bytes_const (P := Tryd.prog) w 22 5 C n c Tryd.underlying22 Tryd.underlying5
  have HL := hide hL
  have N0 : Hid (w = w) := rfl
  clear hL
  go_enter Tryd.func5, Tryd.ntmps5
  go_wp2_with (first
    | (go_at_call 7; have t := N0; clear t; refine (aw1_call HL.out).mono ?_; rintro e w1 ⟨ca, cc, ta, tc, ka, kc1, rfl, q1, g1⟩; obtain ⟨W1, hW1⟩ : ∃ W1, W1 = w1.alloc (.cells (stC (parseN aw1) ca cc ta tc ka kc1) 34) := ⟨_, rfl⟩; obtain ⟨P1, hP1⟩ : ∃ P1, P1 = w1.heap.size := ⟨_, rfl⟩; have b1 : W1.heap[P1]? = some (.cells (stC (parseN aw1) ca cc ta tc ka kc1) 34 (0, 0)) := (by rw [hW1, hP1]; exact World.alloc_heap_new _ _); have k1 : w1.grownBy W1 none := (by rw [hW1]; exact World.grownBy_alloc _ _ _); replace q1 := hide (q1.on (below_gr k1)); replace g1 := hide (gr_trans g1 k1); replace b1 := hide b1; clear N0 k1; have N1 : Hid (w = w) := rfl)
    | (have t := N1; clear t; refine wpList_store_row rfl 34 _ _ rfl w1.heap.size (stC (parseN aw1) ca cc ta tc ka kc1) rfl rfl _ _ (World.alloc_heap_new w1 _) (step_size _ _ _ _ _ _ _) rfl (step_one _ _ _ _ _ _ _) ?_; rw [setRow_alloc, ← hW1, ← hP1]; clear N1 hW1 hP1; have N2 : Hid (w = w) := rfl)
    | (go_at_call 7; have t := N2; clear t; refine (aw2_call (HL.out.on (below_gr g1.out))).mono ?_; rintro e w2 ⟨cb, cd, tb, td, kb, kd, rfl, q2, g2⟩; obtain ⟨W2, hW2⟩ : ∃ W2, W2 = w2.alloc (.cells (stC (parseN aw2) cb cd tb td kb kd) 34) := ⟨_, rfl⟩; obtain ⟨P2, hP2⟩ : ∃ P2, P2 = w2.heap.size := ⟨_, rfl⟩; have b2 : W2.heap[P2]? = some (.cells (stC (parseN aw2) cb cd tb td kb kd) 34 (0, 0)) := (by rw [hW2, hP2]; exact World.alloc_heap_new _ _); have k2 : w2.grownBy W2 none := (by rw [hW2]; exact World.grownBy_alloc _ _ _); replace q2 := hide (q2.on (below_gr k2)); replace g2 := hide (gr_trans g2 k2); replace b2 := hide b2; clear N2 k2; have N3 : Hid (w = w) := rfl)
    | (have t := N3; clear t; refine wpList_store_row rfl 34 _ _ rfl w2.heap.size (stC (parseN aw2) cb cd tb td kb kd) rfl rfl _ _ (World.alloc_heap_new w2 _) (step_size _ _ _ _ _ _ _) rfl (step_one _ _ _ _ _ _ _) ?_; rw [setRow_alloc, ← hW2, ← hP2]; clear N3 hW2 hP2; have N4 : Hid (w = w) := rfl)
    | (go_at_call 7; have t := N4; clear t; refine (aw3_call (HL.out.on (below_gr (gr_trans g1.out g2.out)))).mono ?_; rintro e w3 ⟨cf, cg, tf, tg, kf, kg, rfl, q3, g3⟩; obtain ⟨W3, hW3⟩ : ∃ W3, W3 = w3.alloc (.cells (stC (parseN aw3) cf cg tf tg kf kg) 34) := ⟨_, rfl⟩; obtain ⟨P3, hP3⟩ : ∃ P3, P3 = w3.heap.size := ⟨_, rfl⟩; have b3 : W3.heap[P3]? = some (.cells (stC (parseN aw3) cf cg tf tg kf kg) 34 (0, 0)) := (by rw [hW3, hP3]; exact World.alloc_heap_new _ _); have k3 : w3.grownBy W3 none := (by rw [hW3]; exact World.grownBy_alloc _ _ _); replace g3 := hide (gr_trans g3 k3); clear N4 k3 q3; have N5 : Hid (w = w) := rfl; replace b3 := hide b3)
    | (have t := N5; clear t; refine wpList_store_row rfl 34 _ _ rfl w3.heap.size (stC (parseN aw3) cf cg tf tg kf kg) rfl rfl _ _ (World.alloc_heap_new w3 _) (step_size _ _ _ _ _ _ _) rfl (step_one _ _ _ _ _ _ _) ?_; rw [setRow_alloc, ← hW3, ← hP3]; clear N5 hW3 hP3; obtain ⟨⟨ab, ao, rfl, c98⟩, ⟨bb, bo, rfl, va, vc, rC, vB⟩, sA, sB, sU, sE, sR, GG⟩ := aw_end b1.out q1.out b2.out q2.out b3.out g1.out g2.out g3.out; clear b1 b2 b3 q1 q2 g1 g2 g3; have VX := hide vB; replace GG := hide GG; clear vB)
    | (refine wpList_load_mid rfl 40 _ rfl bb bo rfl (cmC awC va vc).toList _ rC Tryd.underlying40 rfl (by rw [cmd_size awC va vc, Array.length_toList]) ?_)
    | (refine wpList_store_row rfl 40 _ _ rfl W3.heap.size (cmC awC va vc) rfl rfl _ _ (World.alloc_heap_new W3 _) (cmd_size _ _ _) rfl (cmd_one _ _ _) ?_; rw [setRow_alloc]; obtain ⟨W4, hW4⟩ : ∃ W4, W4 = W3.alloc (.cells (cmC awC va vc) 40) := ⟨_, rfl⟩; obtain ⟨P4, hP4⟩ : ∃ P4, P4 = W3.heap.size := ⟨_, rfl⟩; rw [← hW4, ← hP4]; have kk : W3.grownBy W4 none := (by rw [hW4]; exact World.grownBy_alloc _ _ _); have hx : W4.heap[P4]? = some (.cells (cmC awC va vc) 40 (0, 0)) := (by rw [hW4, hP4]; exact World.alloc_heap_new _ _); replace sA := cell_keep kk sA; replace sU := cell_keep kk sU; replace sE := cell_keep kk sE; replace sR := cell_keep kk sR; replace c98 := cell_keep kk c98; obtain ⟨x0, x1, x2, x3⟩ := aw_x hx; have cv := convU (VX.out.on (below_gr kk)); replace GG := hide (gr_trans GG.out kk); clear hW4 hP4 kk hx rC sB VX))
  go_ret
  exact ⟨by first | rfl | (simp; done), GG.out⟩
end Go.Proofs.YtfcmnkhfmofioaaDoor

namespace Go.Proofs.YtfcmnkhfmofioaaDoor
set_option linter.unusedVariables false
open Go.RowKit

section
variable {w : World} {s : Sv} {ca ta ka : Option Addr} {cc tc kc : Nat} {t : TypeId} {p : Nat}
theorem st_at (h : w.heap[p]? = some (.cells (stC s ca cc ta tc ka kc) t (0, 0))) (j : Nat) (v : Value) (hv : (stC s ca cc ta tc ka kc)[j]? = some v) : w.cell? ⟨p, j, none⟩ = some v := by
  unfold World.cell?
  rw [h]
  exact hv
theorem st_req (h : w.heap[p]? = some (.cells (stC s ca cc ta tc ka kc) t (0, 0))) : w.rangeAt p 0 (rqC s.req ca cc ta tc ka kc).toList := fun j v hv => by
  have hj : j < 11 := (List.getElem?_eq_some_iff.1 hv).1
  refine st_at h _ v ?_
  match j, hj with
  | 0, _ | 1, _ | 2, _ | 3, _ | 4, _ | 5, _ | 6, _ | 7, _ | 8, _ | 9, _ | 10, _ => exact hv
theorem st_cells (h : w.heap[p]? = some (.cells (stC s ca cc ta tc ka kc) t (0, 0))) : w.cell? ⟨p, 11, none⟩ = some (.string s.reply) ∧ w.cell? ⟨p, 12, none⟩ = some (.int .i64 s.used) ∧ w.cell? ⟨p, 13, none⟩ = some (.int .i64 s.skip) ∧ w.cell? ⟨p, 14, none⟩ = some (.bool s.line) ∧ w.cell? ⟨p, 15, none⟩ = some (.int .i64 s.e) :=
  ⟨st_at h 11 _ rfl, st_at h 12 _ rfl, st_at h 13 _ rfl, st_at h 14 _ rfl, st_at h 15 _ rfl⟩
end
/-- Not too many of anything. -/
structure Few1 (r : Qv) : Prop where
  cmds : r.cmds.length ≤ 1000000
  keys : r.form.keys.length ≤ 1000000
  toks : r.form.toks.length ≤ 1000000
section
variable {w : World}
set_option maxRecDepth 100000 in
set_option maxHeartbeats 4000000 in
theorem steps_eq {s : Sv} {cs ds : Array Value} (hf : Few1 s.req) (h1 : StepAt w s cs) (h2 : StepAt w s ds) : Calls Tryd.prog 6 #[.agg cs, .agg ds] w fun e w' => e = .returned (.bool true) ∧ w.grownBy w' none := by
  obtain ⟨ca, cc, ta, tc, ka, kc, rfl, q1⟩ := h1
  obtain ⟨cb, cd, tb, td, kb, kd, rfl, q2⟩ := h2
  have H := ((Law.start w).box (.cells (stC s ca cc ta tc ka kc) 34)).box (.cells (stC s cb cd tb td kb kd) 34)
  simp only [World.size_alloc] at H
  obtain ⟨W2, hW2⟩ : ∃ W2, W2 = (w.alloc (.cells (stC s ca cc ta tc ka kc) 34)).alloc (.cells (stC s cb cd tb td kb kd) 34) := ⟨_, rfl⟩
  rw [← hW2] at H
  have ra := st_req H.q.2.1.1
  have rb := st_req H.q.1
  have gw : w.grownBy W2 none := gr_of_below H.below
  have HC := hide (requests_eq (q1.on H.below) (q2.on H.below) hf.cmds hf.keys hf.toks)
  have HX := hide (fun (W : World) (hg : W2.grownBy W none) => And.intro (st_cells (H.step hg).q.2.1.1) (st_cells (H.step hg).q.1))
  have HG := hide gw
  clear H q1 q2 gw hf
  go_enter Tryd.func6, Tryd.ntmps6
  go_wp2_with (first
    | (have t1 := hW2; clear t1; rw [← hW2]; refine wpList_load_mid rfl 31 _ rfl w.heap.size 0 rfl (rqC s.req ca cc ta tc ka kc).toList _ ra Tryd.underlying31 rfl (by rw [req_size s.req ca ta ka cc tc kc, Array.length_toList]) ?_; clear hW2)
    | (refine wpList_load_mid rfl 31 _ rfl (w.heap.size + 1) 0 rfl (rqC s.req cb cd tb td kb kd).toList _ rb Tryd.underlying31 rfl (by rw [req_size s.req cb tb kb cd td kd, Array.length_toList]) ?_)
    | (go_at_call 10; refine HC.out.mono ?_; rintro e w3 ⟨rfl, g3⟩; obtain ⟨⟨x1, x2, x3, x4, x5⟩, y1, y2, y3, y4, y5⟩ := HX.out w3 g3; replace g3 := hide (gr_trans HG.out g3); clear ra rb))
  go_ret
  exact ⟨by first | rfl | (simp; done), g3.out⟩
set_option maxRecDepth 100000 in
set_option maxHeartbeats 4000000 in
theorem steps_bool {s u : Sv} {cs ds : Array Value} (h1 : StepAt w s cs) (h2 : StepAt w u ds) (hq : ∀ (W : World) (ca ta ka cb tb kb : Option Addr) (cc tc kc cd td kd : Nat), QAt W s.req ca cc ta tc ka kc → QAt W u.req cb cd tb td kb kd → Calls Tryd.prog 10 #[.agg (rqC s.req ca cc ta tc ka kc), .agg (rqC u.req cb cd tb td kb kd)] W fun e w' => (∃ b, e = .returned (.bool b)) ∧ W.grownBy w' none) : Calls Tryd.prog 6 #[.agg cs, .agg ds] w fun e w' => (∃ b, e = .returned (.bool b)) ∧ w.grownBy w' none := by
  obtain ⟨ca, cc, ta, tc, ka, kc, rfl, q1⟩ := h1
  obtain ⟨cb, cd, tb, td, kb, kd, rfl, q2⟩ := h2
  have H := ((Law.start w).box (.cells (stC s ca cc ta tc ka kc) 34)).box (.cells (stC u cb cd tb td kb kd) 34)
  simp only [World.size_alloc] at H
  obtain ⟨W2, hW2⟩ : ∃ W2, W2 = (w.alloc (.cells (stC s ca cc ta tc ka kc) 34)).alloc (.cells (stC u cb cd tb td kb kd) 34) := ⟨_, rfl⟩
  rw [← hW2] at H
  have ra := st_req H.q.2.1.1
  have rb := st_req H.q.1
  have gw : w.grownBy W2 none := gr_of_below H.below
  have HC := hide (hq W2 ca ta ka cb tb kb cc tc kc cd td kd (q1.on H.below) (q2.on H.below))
  have HX := hide (fun (W : World) (hg : W2.grownBy W none) => And.intro (st_cells (H.step hg).q.2.1.1) (st_cells (H.step hg).q.1))
  have HG := hide gw
  clear H q1 q2 gw hq
  go_enter Tryd.func6, Tryd.ntmps6
  go_wp2_with (first
    | (have t1 := hW2; clear t1; rw [← hW2]; refine wpList_load_mid rfl 31 _ rfl w.heap.size 0 rfl (rqC s.req ca cc ta tc ka kc).toList _ ra Tryd.underlying31 rfl (by rw [req_size s.req ca ta ka cc tc kc, Array.length_toList]) ?_; clear hW2)
    | (refine wpList_load_mid rfl 31 _ rfl (w.heap.size + 1) 0 rfl (rqC u.req cb cd tb td kb kd).toList _ rb Tryd.underlying31 rfl (by rw [req_size u.req cb tb kb cd td kd, Array.length_toList]) ?_)
    | (go_at_call 10; refine HC.out.mono ?_; rintro e w3 ⟨⟨b, rfl⟩, g3⟩; obtain ⟨⟨x1, x2, x3, x4, x5⟩, y1, y2, y3, y4, y5⟩ := HX.out w3 g3; replace g3 := hide (gr_trans HG.out g3); clear ra rb))
  all_goals
    go_ret
    exact ⟨⟨_, rfl⟩, g3.out⟩
end
end Go.Proofs.YtfcmnkhfmofioaaDoor

namespace Go.Proofs.YtfcmnkhfmofioaaDoor
set_option linter.unusedVariables false

theorem noCR_id {l : List UInt8} (h : (13 : UInt8) ∉ l) : noCR l = l := by
  unfold noCR
  rw [if_neg]
  intro e
  exact h (List.mem_of_getLast? e)
/-- A line with a carriage return and a line feed. -/
theorem lineN_crlf {l : List UInt8} (r : List UInt8) (h : (10 : UInt8) ∉ l) (hl : l.length ≤ 2048) : lineN (l ++ 13 :: 10 :: r) = (l, (l.length : Int) + 2, 0) := by
  have e : l ++ 13 :: 10 :: r = (l ++ [13]) ++ 10 :: r := by simp
  have h2 : (10 : UInt8) ∉ l ++ [13] := by
    intro hm
    rcases List.mem_append.1 hm with h1 | h1
    · exact h h1
    · simp at h1
  rw [e, lineN_of h2, noCR_snoc, if_neg (by omega), List.length_append]
  simp
  omega
theorem lineN_lf {l : List UInt8} (r : List UInt8) (h : (10 : UInt8) ∉ l) (h13 : (13 : UInt8) ∉ l) (hl : l.length ≤ 2048) : lineN (l ++ 10 :: r) = (l, (l.length : Int) + 1, 0) := by
  rw [lineN_of h, noCR_id h13, if_neg (by omega)]
theorem few_no : Few1 noQ := ⟨by decide, by decide, by decide⟩
end Go.Proofs.YtfcmnkhfmofioaaDoor

namespace Go.Proofs.YtfcmnkhfmofioaaDoor
set_option linter.unusedVariables false

theorem parse_of {b l r : List UInt8} {u : Nat} (h : lineN b = (l, (u : Int), 0)) (hb : b.drop u = r) : parseN b = lineS (wordsL l) r (u : Int) := by
  unfold parseN
  rw [h]
  simp only []
  rw [if_neg (by decide), if_neg (by decide), Int.toNat_natCast, hb]
theorem parse_crlf {l : List UInt8} (r : List UInt8) (h : (10 : UInt8) ∉ l) (hl : l.length ≤ 2048) : parseN (l ++ 13 :: 10 :: r) = lineS (wordsL l) r ((l.length + 2 : Nat) : Int) := by
  refine parse_of (l := l) (by rw [lineN_crlf r h hl]; rfl) ?_
  have e : l ++ 13 :: 10 :: r = (l ++ [13, 10]) ++ r := by simp
  rw [e, List.drop_left' (by simp)]
theorem parse_lf {l : List UInt8} (r : List UInt8) (h : (10 : UInt8) ∉ l) (h13 : (13 : UInt8) ∉ l) (hl : l.length ≤ 2048) : parseN (l ++ 10 :: r) = lineS (wordsL l) r ((l.length + 1 : Nat) : Int) := by
  refine parse_of (l := l) (by rw [lineN_lf r h h13 hl]; rfl) ?_
  have e : l ++ 10 :: r = (l ++ [10]) ++ r := by simp
  rw [e, List.drop_left' (by simp)]
/-- With nothing behind it a line is waited for, or hangs on what it takes by that number alone. -/
theorem lineS_nil (ws : List (List UInt8)) : (∀ u, lineS ws [] u = moreS) ∨ ∃ s : Sv, s.e ≠ 3 ∧ ∀ u, lineS ws [] u = { s with used := u } := by
  unfold lineS
  by_cases hf : (readN ws).2 = []
  · simp only [if_pos hf]
    unfold finishN
    cases hs : (readN ws).1.sized
    · simp only [if_true]
      exact .inr ⟨⟨reqD (readN ws).1, ⟨#[]⟩, 0, 0, false, 0⟩, by show (0 : Int) ≠ 3; decide, fun u => rfl⟩
    · left
      intro u
      rw [if_neg (by simp)]
      obtain ⟨h1, h2, h3⟩ := readN_ok ws
      have hz := h1.size
      have hz2 := h3 hf
      have e : (bodyN [] (readN ws).1.size).2.2 = 3 := by
        unfold bodyN
        rw [if_neg (by omega), if_pos (by simp; omega)]
      rw [if_pos e]
  · simp only [if_neg hf]
    exact .inr ⟨{ refuseS (readN ws).2 0 with skip := skipN (readN ws).1 }, by show (2 : Int) ≠ 3; decide, fun u => rfl⟩
theorem few_req {d : Dv} {n : Nat} (h : d.keys.length ≤ n) (hn : n ≤ 100000) : Few1 (reqD d) := by
  refine ⟨?_, ?_, by simp [reqD, formD]⟩
  · show (if d.keys = [] then [cmdD d []] else d.keys.map (cmdD d)).length ≤ 1000000
    split
    · simp
    · rw [List.length_map]; omega
  · show (d.keys.map mkB).length ≤ 1000000
    rw [List.length_map]; omega
theorem line_few (ws : List (List UInt8)) (r : List UInt8) (u : Int) (hw : ws.length ≤ 100000) : Few1 (lineS ws r u).req := by
  obtain ⟨h1, h2, h3⟩ := readN_ok ws
  unfold lineS
  split
  · unfold finishN
    repeat' split
    · exact few_req h1.keys hw
    · exact few_no
    · exact few_no
    · exact few_req (d := { (readN ws).1 with val := _ }) h1.keys hw
  · exact few_no
end Go.Proofs.YtfcmnkhfmofioaaDoor

namespace Go.Proofs.YtfcmnkhfmofioaaDoor
set_option linter.unusedVariables false
open Go.RowKit

section
variable {w : World} {r u : Qv} {ca ta ka cb tb kb : Option Addr} {cc tc kc cd td kd : Nat}
set_option maxRecDepth 100000 in
set_option maxHeartbeats 4000000 in
theorem requests_ne (hn : r.cmds.length ≠ u.cmds.length) : Calls Tryd.prog 10 #[.agg (rqC r ca cc ta tc ka kc), .agg (rqC u cb cd tb td kb kd)] w fun e w' => e = .returned (.bool false) ∧ w.grownBy w' none := by
  have H := ((((Law.start w).box (.cells (rqC r ca cc ta tc ka kc) 31)).box (.cells (rqC u cb cd tb td kb kd) 31)).box (.cells (fmC r.form ta tc ka kc) 29)).box (.cells (fmC u.form tb td kb kd) 29)
  simp only [World.size_alloc] at H
  obtain ⟨W2, hW2⟩ : ∃ W2, W2 = (w.alloc (.cells (rqC r ca cc ta tc ka kc) 31)).alloc (.cells (rqC u cb cd tb td kb kd) 31) := ⟨_, rfl⟩
  obtain ⟨W3, hW3⟩ : ∃ W3, W3 = W2.alloc (.cells (fmC r.form ta tc ka kc) 29) := ⟨_, rfl⟩
  obtain ⟨W4, hW4⟩ : ∃ W4, W4 = W3.alloc (.cells (fmC u.form tb td kb kd) 29) := ⟨_, rfl⟩
  have z2 : W2.heap.size = w.heap.size + 1 + 1 := by rw [hW2, World.size_alloc, World.size_alloc]
  have z3 : W3.heap.size = w.heap.size + 1 + 1 + 1 := by rw [hW3, World.size_alloc, z2]
  rw [← hW2, ← hW3, ← hW4] at H
  have hA2 : W2.heap[w.heap.size]? = some (.cells (rqC r ca cc ta tc ka kc) 31 (0, 0)) := by rw [hW2, Below.heap_alloc _ _ _ (by rw [World.size_alloc]; omega)]; exact World.alloc_heap_new _ _
  have hB3 : W3.heap[w.heap.size + 1]? = some (.cells (rqC u cb cd tb td kb kd) 31 (0, 0)) := by
    rw [hW3, Below.heap_alloc _ _ _ (by omega), hW2]
    have := World.alloc_heap_new (w.alloc (.cells (rqC r ca cc ta tc ka kc) 31)) (.cells (rqC u cb cd tb td kb kd) 31)
    rw [World.size_alloc] at this
    exact this
  have ra := rq_form hA2
  have rb := rq_form hB3
  have S3 : Hid (∀ old, (W2.alloc (.cells old 29)).setRow (w.heap.size + 1 + 1) (fmC r.form ta tc ka kc) = W3) := fun old => by rw [hW3, ← z2]; exact setRow_alloc _ _ _ _
  have S4 : Hid (∀ old, (W3.alloc (.cells old 29)).setRow (w.heap.size + 1 + 1 + 1) (fmC u.form tb td kb kd) = W4) := fun old => by rw [hW4, ← z3]; exact setRow_alloc _ _ _ _
  have N3 : Hid (∀ old, (W2.alloc (.cells old 29)).heap[w.heap.size + 1 + 1]? = some (.cells old 29 (0, 0))) := fun old => by rw [← z2]; exact World.alloc_heap_new _ _
  have N4 : Hid (∀ old, (W3.alloc (.cells old 29)).heap[w.heap.size + 1 + 1 + 1]? = some (.cells old 29 (0, 0))) := fun old => by rw [← z3]; exact World.alloc_heap_new _ _
  have a0 := rq_at H.q.2.1.2.1.2.1.1 0 _ rfl
  have b0 := rq_at H.q.2.1.2.1.1 0 _ rfl
  have HG := hide (gr_of_below H.below)
  obtain ⟨n, hnn⟩ : ∃ n, r.cmds.length = n := ⟨_, rfl⟩
  obtain ⟨m, hmm⟩ : ∃ m, u.cmds.length = m := ⟨_, rfl⟩
  have a1 : W4.cell? ⟨w.heap.size, 0, none⟩ = some (.slice ca n cc) := by rw [← hnn]; exact a0
  have b1 : W4.cell? ⟨w.heap.size + 1, 0, none⟩ = some (.slice cb m cd) := by rw [← hmm]; exact b0
  have hne : ¬ (n : Int) = (m : Int) := by omega
  clear H hA2 hB3 hW3 hW4 a0 b0 hn hnn hmm
  go_enter Tryd.func10, Tryd.ntmps10
  go_wp2_with (first
    | (have t1 := hW2; clear t1; rw [← hW2]; refine wpList_load_mid rfl 29 _ rfl w.heap.size 1 rfl (fmC r.form ta tc ka kc).toList _ ra Tryd.underlying29 rfl (by rw [fmC_size r.form ta tc ka kc, Array.length_toList]) ?_; clear hW2)
    | (refine wpList_load_mid rfl 29 _ rfl (w.heap.size + 1) 1 rfl (fmC u.form tb td kb kd).toList _ rb Tryd.underlying29 rfl (by rw [fmC_size u.form tb td kb kd, Array.length_toList]) ?_)
    | (refine wpList_store_row rfl 29 _ _ rfl (w.heap.size + 1 + 1) (fmC r.form ta tc ka kc) rfl rfl _ _ (N3.out _) (fmC_size _ _ _ _ _) rfl (fmC_one _ _ _ _ _) ?_; rw [S3.out])
    | (refine wpList_store_row rfl 29 _ _ rfl (w.heap.size + 1 + 1 + 1) (fmC u.form tb td kb kd) rfl rfl _ _ (N4.out _) (fmC_size _ _ _ _ _) rfl (fmC_one _ _ _ _ _) ?_; rw [S4.out]))
  go_ret
  exact ⟨rfl, HG.out⟩
/-- A step without commands, held against any step that has commands or none at all. -/
theorem steps_some {s u : Sv} {cs ds : Array Value} (hs : s.req = noQ) (hu : u.req = noQ ∨ 0 < u.req.cmds.length) (h1 : StepAt w s cs) (h2 : StepAt w u ds) : Calls Tryd.prog 6 #[.agg cs, .agg ds] w fun e w' => (∃ b, e = .returned (.bool b)) ∧ w.grownBy w' none := by
  refine steps_bool h1 h2 fun W ca ta ka cb tb kb cc tc kc cd td kd q1 q2 => ?_
  rw [hs] at q1 ⊢
  rcases hu with hu | hu
  · rw [hu] at q2 ⊢
    exact (requests_eq q1 q2 (by decide) (by decide) (by decide)).mono fun e w' ⟨h, g⟩ => ⟨⟨_, h⟩, g⟩
  · exact (requests_ne (r := noQ) (u := u.req) (show (0 : Nat) ≠ u.req.cmds.length by omega)).mono fun e w' ⟨h, g⟩ => ⟨⟨_, h⟩, g⟩
end
end Go.Proofs.YtfcmnkhfmofioaaDoor

namespace Go.Proofs.YtfcmnkhfmofioaaDoor
open Go.RowKit

/-- A row of bytes in a block that is base or later; all its room is there and none of it is frozen. -/
structure Free (base : Nat) (w : World) (g n c : Nat) (l : List UInt8) : Prop where
  len : l.length = n
  new : base ≤ g
  old : g < w.heap.size
  le : n ≤ c
  max : c ≤ maxLen
  cell : ∀ i, ∀ h : i < l.length, w.cell? ⟨g, i, none⟩ = some (.int .u8 (l[i].toNat : Int))
  room : ∀ i, i < c → (w.cell? ⟨g, i, none⟩).isSome = true ∧ w.frozen? ⟨g, i, none⟩ = false
theorem Free.bu {base : Nat} {w : World} {g n c : Nat} {l : List UInt8} (h : Free base w g n c l) : Bu w (some ⟨g, 0, none⟩) n c l := by
  refine ⟨h.len, ?_, h.le, h.max⟩
  by_cases h0 : n = 0
  · refine .inl ⟨h0, ?_, fun e => by cases e⟩
    have : l = [] := List.eq_nil_of_length_eq_zero (by rw [h.len, h0])
    rw [this]
    rfl
  · refine .inr ⟨g, 0, rfl, by omega, h.le, by rw [ints_len, h.len], ints_byt l, fun i hi => ?_, h.old⟩
    rw [Nat.zero_add, h.cell i (by rw [h.len]; exact hi), getD_ints l i (by rw [h.len]; exact hi)]
theorem Free.grow {base : Nat} {w w' : World} {g n c : Nat} {l : List UInt8} (h : Free base w g n c l) (hg : w.grownBy w' none) : Free base w' g n c l := by
  have e := hg.block g h.old (by simp)
  refine ⟨h.len, h.new, Nat.lt_of_lt_of_le h.old hg.size, h.le, h.max, fun i hi => ?_, fun i hi => ?_⟩
  · rw [World.cell?_of_block (a := ⟨g, i, none⟩) e]; exact h.cell i hi
  · rw [World.cell?_of_block (a := ⟨g, i, none⟩) e, World.frozen?_of_block (a := ⟨g, i, none⟩) e]; exact h.room i hi
/-- '[]byte(s)' -/
theorem free_bytes (S : ByteArray) (hS : S.size ≤ maxLen) (w : World) : ∃ c w', (convert 9 22 (.string S)).run Tryd.prog w = .ok (.slice (some ⟨w.heap.size, 0, none⟩) S.size c) w' ∧ Free w.heap.size w' w.heap.size S.size c S.data.toList ∧ w.grownBy w' none := by
  have hr := run_bytes_of_string (P := Tryd.prog) w 9 22 5 S Tryd.underlying9 Tryd.underlying22 Tryd.underlying5
  have hge := grownCap_ge w S.size 0 5
  have hmx := grownCap_le_maxLen w S.size 0 5 hS
  obtain ⟨C, hC⟩ : ∃ C, C = grownCap w S.size 0 5 := ⟨_, rfl⟩
  rw [← hC] at hr hge hmx
  have hh : (w.drew.alloc (.cells (bytesRow S C) 5 ((bytesRow S C).size, (bytesRow S C).size + 1))).heap[w.heap.size]? = some (.cells (bytesRow S C) 5 ((bytesRow S C).size, (bytesRow S C).size + 1)) := by
    show (w.heap.push _)[w.heap.size]? = _
    simp
  have hsz : (bytesRow S C).size = C := by
    unfold bytesRow
    rw [Array.size_append, Array.size_map, Array.size_replicate]
    have : S.data.size = S.size := rfl
    omega
  refine ⟨C, _, hr, ⟨Array.length_toList, Nat.le_refl _, ?_, hge, hmx, fun i hi => ?_, fun i hi => ⟨?_, ?_⟩⟩, ⟨rfl, rfl, rfl, by simp, fun k hk _ => heap_alloc_old w.drew _ hk⟩⟩
  · show w.heap.size < (w.heap.push _).size
    simp
  · rw [Array.length_toList] at hi
    unfold World.cell?
    rw [hh]
    show (bytesRow S C)[i]? = _
    unfold bytesRow
    rw [Array.getElem?_append_left (by rw [Array.size_map]; exact hi), Array.getElem?_map, Array.getElem?_eq_getElem hi]
    rfl
  · unfold World.cell?
    rw [hh]
    show ((bytesRow S C)[i]?).isSome = true
    rw [Array.getElem?_eq_getElem (by rw [hsz]; exact hi)]
    rfl
  · unfold World.frozen?
    rw [hh]
    show (decide ((bytesRow S C).size ≤ i) && decide (i < (bytesRow S C).size + 1)) = false
    rw [hsz, decide_eq_false (by omega)]
    rfl
theorem setCells_gr (b : Nat) : ∀ (vs : List Value) (o : Nat) (w : World), w.grownBy (w.setCells b o vs) (some b)
  | [], _, w => gr_refl _ _
  | v :: vs, o, w => by
    have h1 : w.grownBy (w.setCell ⟨b, o, none⟩ v) (some b) := ⟨rfl, rfl, rfl, by rw [World.size_setCell]; exact Nat.le_refl _, fun j _ hn => heap_setCell_other _ _ _ _ (fun e => hn (by rw [e]))⟩
    exact gr_trans h1 (setCells_gr b vs (o + 1) (w.setCell ⟨b, o, none⟩ v))
theorem byU_at {l : List UInt8} {i : Nat} (h : i < (byU l).length) : (byU l)[i] = .int .u8 (l[i]'(by rw [← byU_len]; exact h)).toNat := by
  have h2 : i < l.length := by rw [← byU_len]; exact h
  have h1 := byU_get h2
  rw [List.getElem?_eq_getElem h, getD_ints l i h2] at h1
  exact Option.some.inj h1
set_option maxRecDepth 100000 in
/-- Bytes are appended. -/
theorem Free.append {base : Nat} {w : World} {g n c : Nat} {l : List UInt8} (h : Free base w g n c l) {b : Option Addr} {m d : Nat} {k : List UInt8} (hk : Bu w b m d k) (hn : n + m ≤ 100000000) (hb : base ≤ w.heap.size) (ty : TypeId) :
    ∃ g' c' w', (Builtin.append_ #[22, 22] ty #[.slice (some ⟨g, 0, none⟩) n c, .slice b m d]).run Tryd.prog w = .ok (.slice (some ⟨g', 0, none⟩) (n + m) c') w' ∧ Free base w' g' (n + m) c' (l ++ k) ∧ w.grownBy w' (some g) := by
  obtain ⟨i0, hi, hz0, hz1, hz2⟩ := info_parts info_byte
  have hml : maxLen = 9223372036854775807 ∨ 100000000 ≤ maxLen := .inr (by decide)
  have hkl : (byU k).length = m := by rw [byU_len, hk.n]
  have hone : ∀ u ∈ byU k, u.oneCell' = true := fun u hu => by
    unfold byU byV at hu
    obtain ⟨z, _, rfl⟩ := List.mem_map.1 hu
    rfl
  have hs : Src Tryd.prog i0.size 22 (.slice b m d) m (byU k) w := by
    rw [hz1]
    cases b with
    | none =>
      obtain ⟨rfl, h0⟩ : m = 0 ∧ byU k = [] := by
        rcases hk.b with ⟨h1, h2, h3⟩ | ⟨b, off, r⟩
        · exact ⟨h1, List.eq_nil_of_length_eq_zero (by rw [hkl, h1])⟩
        · cases r.at_
      rw [h0]
      exact Src.ofNil w Tryd.underlying22 d
    | some x =>
      refine Src.ofSlice w Tryd.underlying22 x m d (byU k) (by rw [hkl, Nat.mul_one]) (fun j u hu => ?_) hone
      have hj : j < m := by
        have := (List.getElem?_eq_some_iff.1 hu).1
        omega
      rcases hk.b with ⟨h1, _⟩ | ⟨b, off, r⟩
      · omega
      · obtain rfl : x = ⟨b, off, none⟩ := Option.some.inj r.at_
        rw [add_at, r.cell j hj, ← hu, byU_get (by rw [hk.n]; exact hj)]
  have hlk : (l ++ k).length = n + m := by rw [List.length_append, h.len, hk.n]
  by_cases hroom : n + m ≤ c
  · have hr := run_append_room_src (P := Tryd.prog) w 22 22 ty 5 i0 Tryd.underlying22 hi g 0 n c (.slice b m d) m (byU k) hs hroom
      (fun j hj => by rw [hz1, Nat.mul_one, Nat.zero_add]; exact (h.room (n + j) (by omega)).1) (fun j hj => by rw [hz1, Nat.mul_one, Nat.zero_add]; exact (h.room (n + j) (by omega)).2)
    rw [hz1, Nat.mul_one, Nat.zero_add] at hr
    have hg := setCells_gr g (byU k) n w
    refine ⟨g, c, _, hr, ⟨hlk, h.new, Nat.lt_of_lt_of_le h.old hg.size, hroom, h.max, fun i hi2 => ?_, fun i hi2 => ⟨?_, ?_⟩⟩, hg⟩
    · by_cases hil : i < l.length
      · rw [World.cell?_setCells_out g _ _ _ _ (fun _ _ => .inl (by show i < n; rw [← h.len]; exact hil)), h.cell i hil, List.getElem_append_left hil]
      · obtain ⟨j, rfl⟩ : ∃ j, i = n + j := ⟨i - n, by have := h.len; omega⟩
        have hj : j < (byU k).length := by rw [hkl]; omega
        rw [World.cell?_setCells_in g (byU k) n w (fun j hj => (h.room (n + j) (by omega)).1) j hj, byU_at hj]
        rw [List.getElem_append_right (by rw [h.len]; omega)]
        congr 3
        simp [h.len]
    · by_cases hin : n ≤ i ∧ i < n + m
      · obtain ⟨j, rfl⟩ : ∃ j, i = n + j := ⟨i - n, by omega⟩
        rw [World.cell?_setCells_in g (byU k) n w (fun j hj => (h.room (n + j) (by omega)).1) j (by omega)]
        rfl
      · rw [World.cell?_setCells_out g _ _ _ _ (fun _ _ => by show i < n ∨ n + (byU k).length ≤ i; omega)]
        exact (h.room i hi2).1
    · rw [World.frozen?_setCells]
      exact (h.room i hi2).2
  · have hold : (Builtin.firstCells i0.size n (.slice (some ⟨g, 0, none⟩) n c)).run Tryd.prog w.drew = .ok (byU l).toArray w.drew := by
      refine run_firstCells_some w.drew i0.size n ⟨g, 0, none⟩ n c (byU l) (by rw [hz1, Nat.mul_one, byU_len, h.len]) (fun j u hu => ?_)
      have hj : j < l.length := by
        have := (List.getElem?_eq_some_iff.1 hu).1
        rw [byU_len] at this
        exact this
      rw [add_at, Nat.zero_add]
      show w.cell? ⟨g, j, none⟩ = _
      rw [h.cell j hj, ← hu, byU_get hj, getD_ints l j hj]
    have hle := h.le
    have hfit : Builtin.nextslicecap (n + m) c * i0.bytes ≤ 281474976710656 := by
      rw [hz2]
      exact growslice_fits (by omega) (by omega)
    have hr := run_append_grow_src (P := Tryd.prog) w 22 22 ty 5 i0 (.int .u8 0) Tryd.underlying22 hi hz0 (some ⟨g, 0, none⟩) n c (byU l) hold (.slice b m d) m (byU k) hs (by omega) (by omega) hfit
    have hge := grownCap_ge w (n + m) c 5
    have hmx := grownCap_le_maxLen w (n + m) c 5 (by omega)
    obtain ⟨C, hC⟩ : ∃ C, C = grownCap w (n + m) c 5 := ⟨_, rfl⟩
    rw [← hC] at hr hge hmx
    have hcat : byU l ++ byU k = byU (l ++ k) := by unfold byU byV ints; simp
    rw [hcat] at hr
    obtain ⟨cs, hcs⟩ : ∃ cs, cs = (byU (l ++ k)).toArray ++ Builtin.zeroCells (Value.int .u8 0).cells (C - (n + m)) := ⟨_, rfl⟩
    have hsz : cs.size = C := by
      rw [hcs, Array.size_append, List.size_toArray, byU_len, hlk, size_zeroCells]
      show n + m + (C - (n + m)) * 1 = C
      omega
    rw [← hcs] at hr
    have hh : (w.drew.alloc (.cells cs 5)).heap[w.heap.size]? = some (.cells cs 5) := by
      show (w.heap.push _)[w.heap.size]? = _
      simp
    refine ⟨w.heap.size, C, _, hr, ⟨hlk, hb, ?_, hge, hmx, fun i hi2 => ?_, fun i hi2 => ⟨?_, ?_⟩⟩, ⟨rfl, rfl, rfl, by simp, fun k hk _ => heap_alloc_old w.drew _ hk⟩⟩
    · show w.heap.size < (w.heap.push _).size
      simp
    · rw [cell_of_row _ _ _ _ _ _ hh, hcs, Array.getElem?_append_left (by rw [List.size_toArray, byU_len]; exact hi2), List.getElem?_toArray, byU_get hi2, getD_ints _ _ hi2]
    · rw [cell_of_row _ _ _ _ _ _ hh, Array.getElem?_eq_getElem (by rw [hsz]; exact hi2)]
      rfl
    · exact frozen_of_row _ _ _ _ _ hh
theorem wpList_append_free {w : World} {ops : Array Oper} {rest : List Oper} {o : Oper} {a : Act} {Q : Exit → Act → World → Prop} (hgd : o.guard = none) (s x : Operand) (ho : o.op = .call { callee := .builtin .append, args := #[s, x], argTypes := #[22, 22] })
    (base g n c : Nat) (l : List UInt8) (hs : a.eval s = .slice (some ⟨g, 0, none⟩) n c) (hf : Free base w g n c l) (b : Option Addr) (m d : Nat) (k : List UInt8) (hx : a.eval x = .slice b m d) (hk : Bu w b m d k) (hn : n + m ≤ 100000000) (hb : base ≤ w.heap.size)
    (h : ∀ g' c' w', Free base w' g' (n + m) c' (l ++ k) → w.grownBy w' (some g) → wpList Tryd.prog ops Q rest (a.put o.dst (.slice (some ⟨g', 0, none⟩) (n + m) c')) w') :
    wpList Tryd.prog ops Q (o :: rest) a w := by
  refine wpList_plain hgd fun K hK => ?_
  obtain ⟨g', c', w', hr, h2, h3⟩ := hf.append hk hn hb o.type
  unfold Oper.wp execOp
  simp only [ho, resolve, invoke, builtin, Sem.run_bind, Sem.run_pure, Result.andThen_ok, List.map_toArray, List.map_cons, List.map_nil, hs, hx, hr]
  exact hK _ _ (h g' c' w' h2 h3)
end Go.Proofs.YtfcmnkhfmofioaaDoor

namespace Go.Proofs.YtfcmnkhfmofioaaDoor
set_option linter.unusedVariables false
open Go.RowKit

theorem cat_list (s : ByteArray) (x : Array UInt8) : (s ++ (⟨x⟩ : ByteArray)).data.toList = s.data.toList ++ x.toList := by
  rw [ByteArray.data_append, Array.toList_append]
theorem cat_size (s : ByteArray) (x : Array UInt8) : (s ++ (⟨x⟩ : ByteArray)).size = s.size + x.size := by
  rw [ByteArray.size_append]; rfl
/-- Two steps that were parsed, each in a block of its own. -/
structure TwoAt (w W : World) (P1 P2 : Nat) (s1 s2 : Sv) (ca ta ka cb tb kb : Option Addr) (cc tc kc cd td kd : Nat) : Prop where
  gr : w.grownBy W none
  lo : w.heap.size ≤ P1
  lt : P1 < P2
  hi : P2 < W.heap.size
  b1 : W.heap[P1]? = some (.cells (stC s1 ca cc ta tc ka kc) 34 (0, 0))
  b2 : W.heap[P2]? = some (.cells (stC s2 cb cd tb td kb kd) 34 (0, 0))
  q : ∀ W' : World, (∀ k, w.heap.size ≤ k → k < W.heap.size → k ≠ P1 → k ≠ P2 → W'.heap[k]? = W.heap[k]?) → W.heap.size ≤ W'.heap.size → QAt W' s1.req ca cc ta tc ka kc ∧ QAt W' s2.req cb cd tb td kb kd
section
variable {w W w2 W2 w3 W3 : World} {P1 P2 : Nat} {s1 s2 s' : Sv} {ca ta ka cb tb kb : Option Addr} {cc tc kc cd td kd : Nat}
theorem two_of (q1 : ∀ W' : World, (∀ k, w.heap.size ≤ k → k < w2.heap.size → W'.heap[k]? = w2.heap[k]?) → w2.heap.size ≤ W'.heap.size → QAt W' s1.req ca cc ta tc ka kc) (g1 : w.grownBy w2 none) (hW2 : W2 = w2.alloc (.cells (stC s1 ca cc ta tc ka kc) 34)) (hP1 : P1 = w2.heap.size)
    (q2 : ∀ W' : World, (∀ k, W2.heap.size ≤ k → k < w3.heap.size → W'.heap[k]? = w3.heap[k]?) → w3.heap.size ≤ W'.heap.size → QAt W' s2.req cb cd tb td kb kd) (g2 : W2.grownBy w3 none) (hW3 : W3 = w3.alloc (.cells (stC s2 cb cd tb td kb kd) 34)) (hP2 : P2 = w3.heap.size) : TwoAt w W3 P1 P2 s1 s2 ca ta ka cb tb kb cc tc kc cd td kd := by
  have z2 : W2.heap.size = w2.heap.size + 1 := by rw [hW2, World.size_alloc]
  have z3 : W3.heap.size = w3.heap.size + 1 := by rw [hW3, World.size_alloc]
  have y1 := g1.size
  have y2 := g2.size
  have k2 : w2.grownBy W2 none := by rw [hW2]; exact World.grownBy_alloc _ _ _
  have k3 : w3.grownBy W3 none := by rw [hW3]; exact World.grownBy_alloc _ _ _
  have n1 : W2.heap[P1]? = some (.cells (stC s1 ca cc ta tc ka kc) 34 (0, 0)) := by rw [hW2, hP1]; exact World.alloc_heap_new _ _
  have n2 : W3.heap[P2]? = some (.cells (stC s2 cb cd tb td kb kd) 34 (0, 0)) := by rw [hW3, hP2]; exact World.alloc_heap_new _ _
  refine ⟨gr_trans g1 (gr_trans k2 (gr_trans g2 k3)), by omega, by omega, by omega, (k3.block P1 (by omega) (by simp)).trans ((g2.block P1 (by omega) (by simp)).trans n1), n2, fun W' hs hz => ⟨q1 W' (fun k hk hl => ?_) (by omega), q2 W' (fun k hk hl => ?_) (by omega)⟩⟩
  · exact (hs k hk (by omega) (by omega) (by omega)).trans ((k3.block k (by omega) (by simp)).trans ((g2.block k (by omega) (by simp)).trans (k2.block k hl (by simp))))
  · exact (hs k (by omega) (by omega) (by omega) (by omega)).trans (k3.block k hl (by simp))
theorem TwoAt.now (h : TwoAt w W P1 P2 s1 s2 ca ta ka cb tb kb cc tc kc cd td kd) : StepAt W s1 (stC s1 ca cc ta tc ka kc) ∧ StepAt W s2 (stC s2 cb cd tb td kb kd) := by
  obtain ⟨h1, h2⟩ := h.q W (fun _ _ _ _ _ => rfl) (Nat.le_refl _)
  exact ⟨⟨_, _, _, _, _, _, rfl, h1⟩, ⟨_, _, _, _, _, _, rfl, h2⟩⟩
theorem TwoAt.put1 (h : TwoAt w W P1 P2 s1 s2 ca ta ka cb tb kb cc tc kc cd td kd) (j : Nat) (v : Value) (hs : (stC s1 ca cc ta tc ka kc).setIfInBounds j v = stC s' ca cc ta tc ka kc) (hq : ∀ W', QAt W' s1.req ca cc ta tc ka kc → QAt W' s'.req ca cc ta tc ka kc) : TwoAt w (W.setCell ⟨P1, j, none⟩ v) P1 P2 s' s2 ca ta ka cb tb kb cc tc kc cd td kd := by
  have o : ∀ k, k ≠ P1 → (W.setCell ⟨P1, j, none⟩ v).heap[k]? = W.heap[k]? := fun k hk => heap_setCell_other _ _ _ _ hk
  have n := heap_setCell_same W P1 j _ _ v h.b1
  rw [hs] at n
  have hg := h.gr
  have l1 := h.lo
  have l2 := h.lt
  refine ⟨⟨hg.1, hg.2, hg.3, by rw [World.size_setCell]; exact hg.4, fun k hk _ => (o k (by omega)).trans (hg.5 k hk (by simp))⟩, h.lo, h.lt, by rw [World.size_setCell]; exact h.hi, n, (o P2 (by omega)).trans h.b2, fun W' hs hz => ?_⟩
  rw [World.size_setCell] at hs hz
  obtain ⟨a1, a2⟩ := h.q W' (fun k hk hl h1 h2 => (hs k hk hl h1 h2).trans (o k h1)) hz
  exact ⟨hq W' a1, a2⟩
theorem TwoAt.put2 (h : TwoAt w W P1 P2 s1 s2 ca ta ka cb tb kb cc tc kc cd td kd) (j : Nat) (v : Value) (hs : (stC s2 cb cd tb td kb kd).setIfInBounds j v = stC s' cb cd tb td kb kd) (hq : ∀ W', QAt W' s2.req cb cd tb td kb kd → QAt W' s'.req cb cd tb td kb kd) : TwoAt w (W.setCell ⟨P2, j, none⟩ v) P1 P2 s1 s' ca ta ka cb tb kb cc tc kc cd td kd := by
  have o : ∀ k, k ≠ P2 → (W.setCell ⟨P2, j, none⟩ v).heap[k]? = W.heap[k]? := fun k hk => heap_setCell_other _ _ _ _ hk
  have n := heap_setCell_same W P2 j _ _ v h.b2
  rw [hs] at n
  have hg := h.gr
  have l1 := h.lo
  have l2 := h.lt
  refine ⟨⟨hg.1, hg.2, hg.3, by rw [World.size_setCell]; exact hg.4, fun k hk _ => (o k (by omega)).trans (hg.5 k hk (by simp))⟩, h.lo, h.lt, by rw [World.size_setCell]; exact h.hi, (o P1 (by omega)).trans h.b1, n, fun W' hs hz => ?_⟩
  rw [World.size_setCell] at hs hz
  obtain ⟨a1, a2⟩ := h.q W' (fun k hk hl h1 h2 => (hs k hk hl h1 h2).trans (o k h2)) hz
  exact ⟨a1, hq W' a2⟩
end
theorem set_used (s : Sv) (z : Int) (ca ta ka : Option Addr) (cc tc kc : Nat) : (stC s ca cc ta tc ka kc).setIfInBounds 12 (.int .i64 z) = stC { s with used := z } ca cc ta tc ka kc := by simp [stC]
end Go.Proofs.YtfcmnkhfmofioaaDoor

namespace Go.Proofs.YtfcmnkhfmofioaaDoor
set_option linter.unusedVariables false
open Go.RowKit

/-- A text as bytes, parsed. -/
theorem text_parse {w : World} (hL : Laid w) (S : ByteArray) (hS : S.size ≤ 100000) : ∃ c w', (convert 9 22 (.string S)).run Tryd.prog w = .ok (.slice (some ⟨w.heap.size, 0, none⟩) S.size c) w' ∧ Calls Tryd.prog 7 #[.slice (some ⟨w.heap.size, 0, none⟩) S.size c] w' fun e w2 => ParseEnd (parseN S.data.toList) w e w2 := by
  obtain ⟨c, w', h1, h2, h3⟩ := free_bytes S (by unfold maxLen; omega) w
  refine ⟨c, w', h1, (parse_any (hL.on (below_gr h3)) h2.bu (by omega)).mono fun e w2 h => h.up h3⟩
/-- A line that ends with a line feed alone. -/
theorem ends_ways {l : List UInt8} (h : (10 : UInt8) ∉ l) (h13 : (13 : UInt8) ∉ l) (hl : l.length ≤ 2048) : (parseN (l ++ [13, 10]) = moreS ∧ parseN (l ++ [10]) = moreS) ∨ ((parseN (l ++ [13, 10])).e ≠ 3 ∧ (parseN (l ++ [10])).e ≠ 3 ∧ (parseN (l ++ [13, 10])).used = (l.length : Int) + 2 ∧ { parseN (l ++ [13, 10]) with used := (l.length : Int) + 1 } = parseN (l ++ [10]) ∧ Few1 (parseN (l ++ [10])).req) := by
  rw [parse_crlf [] h hl, parse_lf [] h h13 hl]
  rcases lineS_nil (wordsL l) with hm | ⟨s, hs, hx⟩
  · exact .inl ⟨hm _, hm _⟩
  · have hf := line_few (wordsL l) [] ((l.length + 1 : Nat) : Int) (by have := wordsL_len l; omega)
    rw [hx] at hf
    rw [hx, hx]
    exact .inr ⟨hs, hs, by simp, by simp, hf⟩
end Go.Proofs.YtfcmnkhfmofioaaDoor

namespace Go.Proofs.YtfcmnkhfmofioaaDoor

theorem parse_append (M : Nat) : ∀ (l r : List UInt8) (acc v : Nat), Lib.parseUintM M acc l = .ok v → Lib.parseUintM M acc (l ++ r) = Lib.parseUintM M v r
  | [], r, acc, v, h => by
    simp only [Lib.parseUintM] at h
    cases h
    rfl
  | c :: l, r, acc, v, h => by
    simp only [List.cons_append, Lib.parseUintM] at h ⊢
    split at h
    · rename_i h1
      rw [if_pos h1]
      split at h
      · cases h
      · rename_i h2
        rw [if_neg h2]
        split at h
        · cases h
        · rename_i h3
          rw [if_neg h3]
          exact parse_append M l r _ v h
    · cases h
theorem parse_digit (v d : Nat) (hd : d < 10) (hv : v * 10 + d < 18446744073709551616) : Lib.parseUintM 18446744073709551615 v [UInt8.ofNat (48 + d)] = .ok (v * 10 + d) := by
  have e : (UInt8.ofNat (48 + d)).toNat = 48 + d := by rw [UInt8.toNat_ofNat']; omega
  simp only [Lib.parseUintM, e]
  rw [if_pos (by omega), if_neg (by omega), if_neg (by omega)]
  congr 1
  omega
theorem parse_show (n : Nat) (hn : n < 18446744073709551616) : Lib.parseUintM 18446744073709551615 0 (Lib.decDigits n) = .ok n := by
  induction n using Nat.strongRecOn with
  | _ n ih =>
    by_cases h : n < 10
    · rw [Lib.decDigits_one h, parse_digit 0 n h (by omega)]
      congr 1
      omega
    · rw [Lib.decDigits, dif_neg h, parse_append _ _ _ _ _ (ih (n / 10) (by omega) (by omega)), parse_digit _ _ (by omega) (by omega)]
      congr 1
      omega
theorem digits_len (n : Nat) (hn : n < 18446744073709551616) : (Lib.decDigits n).length ≤ 20 := by
  rw [Lib.decDigits_length]
  by_cases h : n = 0
  · subst h; rw [Lib.nDigits_small (by decide)]; decide
  · have := Lib.numDigits_eq n (by omega) hn; split at this <;> omega
theorem digits_ne (n : Nat) : Lib.decDigits n ≠ [] := by
  intro h
  have := Lib.decDigits_length n
  rw [h] at this
  have := Lib.nDigits_pos n
  simp at *
  omega
theorem parseB_show (n : Nat) (hn : n < 18446744073709551616) : Lib.parseUintB 64 (Lib.decDigits n) = .ok n := by
  unfold Lib.parseUintB
  rw [if_neg (digits_ne n), show (2 : Nat) ^ 64 - 1 = 18446744073709551615 by decide, parse_show n hn]
theorem dec_show (n : Nat) (hn : n < 18446744073709551616) : dec (Lib.decDigits n) = some n := by
  have := digits_len n hn
  unfold dec
  rw [if_neg (by omega), parseB_show n hn]

end Go.Proofs.YtfcmnkhfmofioaaDoor
