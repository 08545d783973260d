/- The document's own text dialect: version and quit. Conditions: none. -/
import Derived.Test.YtfcmnkhfmofioaaDoorRef14B
import Derived.Test.YtfcmnkhfmofioaaDoorG06Joined
namespace Go.Proofs.YtfcmnkhfmofioaaDoor
set_option linter.unusedVariables false
open Go.RowKit

/-- What a line's function answers: its rows lie in new blocks, or in that of the words. -/
def REnd (b : Nat) (s : Sv) (w : World) (e : Ending) (w' : World) : Prop := ∃ ca cc ta tc ka kc, e = .returned (.agg (stC s ca cc ta tc ka kc)) ∧ (∀ W' : World, (∀ k, k = b ∨ w.heap.size ≤ k → k < w'.heap.size → W'.heap[k]? = w'.heap[k]?) → w'.heap.size ≤ W'.heap.size → QAt W' s.req ca cc ta tc ka kc) ∧ w.grownBy w' none
theorem gr_drewM (w : World) (j : Nat) : w.grownBy (w.drewN j) none := ⟨rfl, rfl, rfl, Nat.le_refl _, fun _ _ _ => rfl⟩
theorem Ru.at0 {w : World} {b n cap : Nat} {ws : List (List UInt8)} (h : Ru w b 0 n cap ws) (i : Nat) (hi : i < ws.length) : w.cell? ⟨b, i, none⟩ = some (.string (mkB ws[i])) := by
  have := h.at_ i hi
  rw [Nat.zero_add] at this
  exact this
section
variable {w W : World} {b : Nat} {old : Array Value} {s : Sv} {ca ta ka : Option Addr} {cc tc kc : Nat}
/-- A step with rows, stored into the result's block. -/
theorem r_end (hb : b < w.heap.size) (hr : W.heap[w.heap.size]? = some (.cells old 34 (0, 0))) (hg : w.grownBy W none) (hq : ∀ W' : World, (∀ k, k = b ∨ w.heap.size < k → k < W.heap.size → W'.heap[k]? = W.heap[k]?) → W.heap.size ≤ W'.heap.size → QAt W' s.req ca cc ta tc ka kc) :
    (W.setRow w.heap.size (stC s ca cc ta tc ka kc)).heap[w.heap.size]? = some (.cells (stC s ca cc ta tc ka kc) 34 (0, 0)) ∧ REnd b s w (.returned (.agg (stC s ca cc ta tc ka kc))) (W.setRow w.heap.size (stC s ca cc ta tc ka kc)) :=
  ⟨setRow_heap W _ old _ _ _ hr, ca, cc, ta, tc, ka, kc, rfl, fun W' hw hz => hq W' (fun k hk hl => (hw k (by omega) (by rw [size_setRow]; exact hl)).trans (setRow_other W _ k _ (by omega))) (by rw [size_setRow] at hz; exact hz), ⟨hg.os, hg.tape, hg.output, by rw [size_setRow]; exact hg.size, fun k hk hn => (setRow_other W _ k _ (by omega)).trans (hg.block k hk hn)⟩⟩
/-- A step without a request. -/
theorem r_bare (hb : b < w.heap.size) (hs : s.req = noQ) (hr : W.heap[w.heap.size]? = some (.cells old 34 (0, 0))) (hg : w.grownBy W none) :
    (W.setRow w.heap.size (stC s none 0 none 0 none 0)).heap[w.heap.size]? = some (.cells (stC s none 0 none 0 none 0) 34 (0, 0)) ∧ REnd b s w (.returned (.agg (stC s none 0 none 0 none 0))) (W.setRow w.heap.size (stC s none 0 none 0 none 0)) :=
  r_end hb hr hg fun W' _ _ => by rw [hs]; exact QAt.none_ _
end
theorem bu_none (w : World) : Bu w none 0 0 [] := ⟨rfl, .inl ⟨rfl, rfl, fun _ => rfl⟩, Nat.le_refl _, Nat.zero_le _⟩
/-- One command's row. -/
theorem one_qat {W : World} {B : Nat} {c : Cv} {va : Option Addr} {vc : Nat} {f : Fv} {ta ka : Option Addr} {tc kc : Nat} (hB : W.heap[B]? = some (.cells (cmC c va vc) 40 (0, 0))) (hv : Bu W va c.val.length vc c.val) (ht : Su W ta f.toks.length tc f.toks) (hk : Su W ka f.keys.length kc f.keys) : QAt W ⟨[c], f⟩ (some ⟨B, 0, none⟩) 1 ta tc ka kc := by
  refine ⟨⟨rfl, Nat.le_refl _, by unfold maxLen; decide, .inr ⟨B, 0, rfl, (Array.getElem?_eq_some_iff.1 hB).1, fun i x hi => ?_⟩⟩, ht, hk⟩
  match i, hi with
  | 0, hi =>
    obtain rfl : c = x := by simpa using hi
    refine ⟨va, vc, fun j v hv => ?_, hv⟩
    unfold World.cell?
    rw [hB]
    simpa using hv
theorem cm_at {W : World} {p : Nat} {c : Cv} {va : Option Addr} {vc : Nat} {t : TypeId} (h : W.heap[p]? = some (.cells (cmC c va vc) t (0, 0))) (j : Nat) (v : Value) (hv : (cmC c va vc)[j]? = some v) : W.cell? ⟨p, j, none⟩ = some v := by
  unfold World.cell?
  rw [h]
  exact hv
theorem cm_cells {W : World} {p : Nat} {c : Cv} {va : Option Addr} {vc : Nat} {t : TypeId} (h : W.heap[p]? = some (.cells (cmC c va vc) t (0, 0))) : W.cell? ⟨p, 0, none⟩ = some (.int .i64 c.op) ∧ W.cell? ⟨p, 1, none⟩ = some (.string c.key) ∧ W.cell? ⟨p, 2, none⟩ = some (.slice va c.val.length vc) ∧ W.cell? ⟨p, 3, none⟩ = some (.int .u32 c.fl) ∧ W.cell? ⟨p, 4, none⟩ = some (.int .i64 c.exp) ∧ W.cell? ⟨p, 5, none⟩ = some (.int .u64 c.cas) ∧ W.cell? ⟨p, 6, none⟩ = some (.int .u64 c.del) ∧ W.cell? ⟨p, 7, none⟩ = some (.int .u64 c.ini) ∧ W.cell? ⟨p, 8, none⟩ = some (.bool c.makes) ∧ W.cell? ⟨p, 9, none⟩ = some (.bool c.sets) :=
  ⟨cm_at h 0 _ rfl, cm_at h 1 _ rfl, cm_at h 2 _ rfl, cm_at h 3 _ rfl, cm_at h 4 _ rfl, cm_at h 5 _ rfl, cm_at h 6 _ rfl, cm_at h 7 _ rfl, cm_at h 8 _ rfl, cm_at h 9 _ rfl⟩
/-- A command without a key or a value. -/
def bareC (op : Int) : Cv := ⟨op, ⟨#[]⟩, [], 0, 0, 0, 0, 0, false, false⟩
def bareF (v : List UInt8) : Fv := ⟨1, mkB v, 0, 0, false, false, ⟨#[]⟩, [], [], false⟩
def rbareS (v : List UInt8) (ws : List (List UInt8)) (used : Int) : Sv := if ws = [] then oneS used (bareC (if v = vb_quit then 16 else 15)) (bareF v) else refuseS t_ERROR used
section
variable {w : World} {b n cap : Nat} {v : List UInt8} {ws : List (List UInt8)}
set_option maxRecDepth 100000 in
set_option maxHeartbeats 1000000 in
theorem rbare_many (hW : Ru w b 0 n cap (v :: ws)) (hws : ws ≠ []) (used : Int) : Calls Tryd.prog 17 #[.slice (some ⟨b, 0, none⟩) n cap, .int .i64 used] w fun e w' => REnd b (refuseS t_ERROR used) w e w' := by
  have hn := hW.n
  have hl : ws.length ≠ 0 := fun e => hws (List.eq_nil_of_length_eq_zero e)
  have h1 : ((n : Int) == 1) = false := by rw [beq_eq_false_iff_ne]; simp at hn; omega
  obtain ⟨W0, hW0⟩ : ∃ W0, W0 = w.alloc (.cells zeroSt 34) := ⟨_, rfl⟩
  have g0 : w.grownBy W0 none := by rw [hW0]; exact World.grownBy_alloc _ _ _
  have r0 : W0.heap[w.heap.size]? = some (.cells zeroSt 34 (0, 0)) := by rw [hW0]; exact World.alloc_heap_new _ _
  have HL : Hid (w.heap.size < W0.heap.size) := by show _ < _; rw [hW0, World.size_alloc]; omega
  have hb := hW.lt
  have HE := hide (fun (W : World) (g : W0.grownBy W none) => r_bare (w := w) (W := W) (b := b) (s := refuseS t_ERROR used) hb rfl ((g.block _ HL.out (by simp)).trans r0) (gr_trans g0 g))
  have R0 := hide (fun (W : World) (g : W0.grownBy W none) => (g.block _ HL.out (by simp)).trans r0)
  have HF := hide (fun W => rfault_any t_ERROR (by decide) used W)
  unfold zeroSt at hW0
  simp only [t_ERROR, mkB] at HF
  clear g0 r0 hb hW hn hl hws
  go_enter Tryd.func17, Tryd.ntmps17
  go_wp2_with (first
    | (go_at_call 14; rw [← hW0]; refine (HF.out _).mono ?_; rintro e w1 ⟨rfl, g1⟩; replace g1 := hide g1)
    | (refine wpList_store_row rfl 34 _ _ rfl w.heap.size (stC (refuseS t_ERROR used) none 0 none 0 none 0) rfl rfl _ _ (R0.out w1 g1.out) (step_size _ _ _ _ _ _ _) rfl (step_one _ _ _ _ _ _ _) ?_))
  exact step_ret rfl (HE.out w1 g1.out).1 rfl rfl (HE.out w1 g1.out).2
/-- One command, its form without rows: the request may be read. -/
theorem one_bare {W0 W1 : World} {used : Int} {c : Cv} {f : Fv} {B : Nat} (hc : c.val = []) (hf : f.toks = []) (hk : f.keys = []) (hB : W1.heap[B]? = some (.cells (cmC c none 0) 40 (0, 0))) (hl : w.heap.size < B) (W' : World) (hw : ∀ k, k = b ∨ w.heap.size < k → k < W1.heap.size → W'.heap[k]? = W1.heap[k]?) : QAt W' (oneS used c f).req (some ⟨B, 0, none⟩) 1 none 0 none 0 :=
  one_qat ((hw B (.inr hl) (Array.getElem?_eq_some_iff.1 hB).1).trans hB) (by rw [hc]; exact bu_none _) (by rw [hf]; exact Su.none_ _) (by rw [hk]; exact Su.none_ _)
set_option maxRecDepth 100000 in
set_option maxHeartbeats 2000000 in
theorem rbare_version (hW : Ru w b 0 1 cap [vb_version]) (used : Int) : Calls Tryd.prog 17 #[.slice (some ⟨b, 0, none⟩) 1 cap, .int .i64 used] w fun e w' => REnd b (oneS used (bareC 15) (bareF vb_version)) w e w' := by
  have hb := hW.lt
  obtain ⟨W0, hW0⟩ : ∃ W0, W0 = w.alloc (.cells zeroSt 34) := ⟨_, rfl⟩
  obtain ⟨W1, hW1⟩ : ∃ W1, W1 = W0.alloc (.cells (cmC (bareC 15) none 0) 40) := ⟨_, rfl⟩
  have z0 : W0.heap.size = w.heap.size + 1 := by rw [hW0, World.size_alloc]
  have g0 : w.grownBy W0 none := by rw [hW0]; exact World.grownBy_alloc _ _ _
  have g1 : W0.grownBy W1 none := by rw [hW1]; exact World.grownBy_alloc _ _ _
  have r0 : W0.heap[w.heap.size]? = some (.cells zeroSt 34 (0, 0)) := by rw [hW0]; exact World.alloc_heap_new _ _
  have n1 : W1.heap[w.heap.size + 1]? = some (.cells (cmC (bareC 15) none 0) 40 (0, 0)) := by rw [hW1, ← z0]; exact World.alloc_heap_new _ _
  have r1 := (g1.block _ (by omega) (by simp)).trans r0
  have hl1 : w.heap.size < W1.heap.size := by have := g1.size; omega
  have c0 := (hW.on (gr_trans g0 g1)).at0 0 (by simp)
  obtain ⟨q0, q1, q2, q3, q4, q5, q6, q7, q8, q9⟩ := cm_cells n1
  simp only [bareC, List.length_nil] at q0 q1 q2 q3 q4 q5 q6 q7 q8 q9
  have HE := hide (fun (W : World) (B : Nat) (g : W1.grownBy W none) (hl : W1.heap.size ≤ B) (hB : W.heap[B]? = some (.cells (cmC (bareC 15) none 0) 40 (0, 0))) => r_end (w := w) (W := W) (b := b) (s := oneS used (bareC 15) (bareF vb_version)) hb ((g.block _ hl1 (by simp)).trans r1) (gr_trans g0 (gr_trans g1 g)) fun W' hw hz => one_bare (W0 := w) (used := used) (c := bareC 15) (f := bareF vb_version) rfl rfl rfl hB (by omega) W' hw)
  have R1 := hide (fun (W : World) (g : W1.grownBy W none) => (g.block _ hl1 (by simp)).trans r1)
  have HO := hide (fun W => rone_any used (bareC 15) none 0 (bareF vb_version) none 0 none 0 W)
  have HW1 : Hid (∀ old, (W0.alloc (.cells old 40)).setRow (w.heap.size + 1) (cmC (bareC 15) none 0) = W1) := fun old => by rw [hW1, ← z0]; exact setRow_alloc _ _ _ _
  have N1 : Hid (∀ old, (W0.alloc (.cells old 40)).heap[w.heap.size + 1]? = some (.cells old 40 (0, 0))) := fun old => by rw [← z0]; exact World.alloc_heap_new _ _
  unfold zeroSt at hW0
  simp only [List.getElem_cons_zero, vb_version, mkB] at c0
  clear g0 g1 r0 r1 n1 hb hW hl1 hW1 z0
  go_enter Tryd.func17, Tryd.ntmps17
  go_wp2_with (first
    | (rw [← hW0]; refine wpList_store_row rfl 40 _ _ rfl (w.heap.size + 1) (cmC (bareC 15) none 0) rfl rfl _ _ (N1.out _) (cmd_size _ _ _) rfl (cmd_one _ _ _) ?_; rw [HW1.out]))
  refine region_dtail 6 (by kernel_rfl) (by simp) (by kernel_rfl) ?_
  simp only [List.take_succ_cons, List.take_zero, List.drop_succ_cons, List.drop_zero]
  repeat (quiet_step (fail))
  refine wpQuiet_nil ?_
  intro _ hw'
  obtain ⟨nq, rfl⟩ := hw'
  clear q0 q1 q2 q3 q4 q5 q6 q7 q8 q9 c0
  have G2 := hide (gr_drewM W1 nq)
  have Z2 : Hid ((W1.drewN nq).heap.size = W1.heap.size) := rfl
  generalize W1.drewN nq = w2 at *
  go_wp2_with (first
    | (go_at_call 36; refine (HO.out w2).mono ?_; rintro e w3 ⟨B, b1, b2, rfl, hB, g3⟩; have g4 := hide (gr_trans G2.out g3); have EE := hide (HE.out w3 B g4.out (by rw [← Z2.out]; exact b1) hB); clear b1 b2 hB g3 HE)
    | (refine wpList_store_row rfl 34 _ _ rfl w.heap.size (stC (oneS used (bareC 15) (bareF vb_version)) (some ⟨B, 0, none⟩) 1 none 0 none 0) rfl rfl _ _ (R1.out w3 g4.out) (step_size _ _ _ _ _ _ _) rfl (step_one _ _ _ _ _ _ _) ?_))
  exact step_ret rfl EE.out.1 rfl rfl EE.out.2
theorem grPut {w W : World} {p j : Nat} (hg : w.grownBy W none) (hp : w.heap.size ≤ p) (v : Value) : w.grownBy (W.setCell ⟨p, j, none⟩ v) none :=
  ⟨hg.os, hg.tape, hg.output, by rw [World.size_setCell]; exact hg.size, fun k hk hn => (heap_setCell_other _ _ _ _ (show k ≠ p by omega)).trans (hg.block k hk hn)⟩
set_option maxRecDepth 100000 in
set_option maxHeartbeats 2000000 in
theorem rbare_quit (hW : Ru w b 0 1 cap [vb_quit]) (used : Int) : Calls Tryd.prog 17 #[.slice (some ⟨b, 0, none⟩) 1 cap, .int .i64 used] w fun e w' => REnd b (oneS used (bareC 16) (bareF vb_quit)) w e w' := by
  have hb := hW.lt
  obtain ⟨W0, hW0⟩ : ∃ W0, W0 = w.alloc (.cells zeroSt 34) := ⟨_, rfl⟩
  obtain ⟨V1, hV1⟩ : ∃ V1, V1 = W0.alloc (.cells (cmC (bareC 15) none 0) 40) := ⟨_, rfl⟩
  obtain ⟨W1, hW1⟩ : ∃ W1, W1 = V1.setCell ⟨w.heap.size + 1, 0, none⟩ (.int .i64 16) := ⟨_, rfl⟩
  have z0 : W0.heap.size = w.heap.size + 1 := by rw [hW0, World.size_alloc]
  have g0 : w.grownBy W0 none := by rw [hW0]; exact World.grownBy_alloc _ _ _
  have gv : W0.grownBy V1 none := by rw [hV1]; exact World.grownBy_alloc _ _ _
  have nv : V1.heap[w.heap.size + 1]? = some (.cells (cmC (bareC 15) none 0) 40 (0, 0)) := by rw [hV1, ← z0]; exact World.alloc_heap_new _ _
  have g1 : W0.grownBy W1 none := by rw [hW1]; exact grPut gv (by omega) _
  have r0 : W0.heap[w.heap.size]? = some (.cells zeroSt 34 (0, 0)) := by rw [hW0]; exact World.alloc_heap_new _ _
  have n1 : W1.heap[w.heap.size + 1]? = some (.cells (cmC (bareC 16) none 0) 40 (0, 0)) := by rw [hW1]; exact heap_setCell_same V1 _ 0 _ _ (.int .i64 16) nv
  have r1 := (g1.block _ (by omega) (by simp)).trans r0
  have hl1 : w.heap.size < W1.heap.size := by have := g1.size; omega
  have c0 := (hW.on (gr_trans g0 g1)).at0 0 (by simp)
  obtain ⟨q0, q1, q2, q3, q4, q5, q6, q7, q8, q9⟩ := cm_cells n1
  simp only [bareC, List.length_nil] at q0 q1 q2 q3 q4 q5 q6 q7 q8 q9
  have HE := hide (fun (W : World) (B : Nat) (g : W1.grownBy W none) (hl : W1.heap.size ≤ B) (hB : W.heap[B]? = some (.cells (cmC (bareC 16) none 0) 40 (0, 0))) => r_end (w := w) (W := W) (b := b) (s := oneS used (bareC 16) (bareF vb_quit)) hb ((g.block _ hl1 (by simp)).trans r1) (gr_trans g0 (gr_trans g1 g)) fun W' hw hz => one_bare (W0 := w) (used := used) (c := bareC 16) (f := bareF vb_quit) rfl rfl rfl hB (by omega) W' hw)
  have R1 := hide (fun (W : World) (g : W1.grownBy W none) => (g.block _ hl1 (by simp)).trans r1)
  have HO := hide (fun W => rone_any used (bareC 16) none 0 (bareF vb_quit) none 0 none 0 W)
  have HV1 : Hid (∀ old, (W0.alloc (.cells old 40)).setRow (w.heap.size + 1) (cmC (bareC 15) none 0) = V1) := fun old => by rw [hV1, ← z0]; exact setRow_alloc _ _ _ _
  have c1 := (hW.on (gr_trans g0 gv)).at0 0 (by simp)
  have p1 := (cm_cells nv).1
  have y1 : V1.frozen? ⟨w.heap.size + 1, 0, none⟩ = false := frozen_of_row _ _ _ _ _ nv
  have HW1 : V1.setCell ⟨w.heap.size + 1, 0, none⟩ (.int .i64 16) = W1 := hW1.symm
  have N1 : Hid (∀ old, (W0.alloc (.cells old 40)).heap[w.heap.size + 1]? = some (.cells old 40 (0, 0))) := fun old => by rw [← z0]; exact World.alloc_heap_new _ _
  unfold zeroSt at hW0
  simp only [List.getElem_cons_zero, vb_quit, mkB] at c0 c1
  clear g0 g1 r0 r1 n1 hb hW hl1 hW1 z0 nv gv hV1
  go_enter Tryd.func17, Tryd.ntmps17
  go_wp2_with (first
    | (rw [← hW0]; refine wpList_store_row rfl 40 _ _ rfl (w.heap.size + 1) (cmC (bareC 15) none 0) rfl rfl _ _ (N1.out _) (cmd_size _ _ _) rfl (cmd_one _ _ _) ?_; rw [HV1.out]))
  clear HW1 c1 p1 y1
  refine region_dtail 6 (by kernel_rfl) (by simp) (by kernel_rfl) ?_
  simp only [List.take_succ_cons, List.take_zero, List.drop_succ_cons, List.drop_zero]
  repeat (quiet_step (fail))
  refine wpQuiet_nil ?_
  intro _ hw'
  obtain ⟨nq, rfl⟩ := hw'
  clear q0 q1 q2 q3 q4 q5 q6 q7 q8 q9 c0
  have G2 := hide (gr_drewM W1 nq)
  have Z2 : Hid ((W1.drewN nq).heap.size = W1.heap.size) := rfl
  generalize W1.drewN nq = w2 at *
  go_wp2_with (first
    | (go_at_call 36; refine (HO.out w2).mono ?_; rintro e w3 ⟨B, b1, b2, rfl, hB, g3⟩; have g4 := hide (gr_trans G2.out g3); have EE := hide (HE.out w3 B g4.out (by rw [← Z2.out]; exact b1) hB); clear b1 b2 hB g3 HE)
    | (refine wpList_store_row rfl 34 _ _ rfl w.heap.size (stC (oneS used (bareC 16) (bareF vb_quit)) (some ⟨B, 0, none⟩) 1 none 0 none 0) rfl rfl _ _ (R1.out w3 g4.out) (step_size _ _ _ _ _ _ _) rfl (step_one _ _ _ _ _ _ _) ?_))
  exact step_ret rfl EE.out.1 rfl rfl EE.out.2
theorem rbare_any (hW : Ru w b 0 n cap (v :: ws)) (hv : v = vb_version ∨ v = vb_quit) (used : Int) : Calls Tryd.prog 17 #[.slice (some ⟨b, 0, none⟩) n cap, .int .i64 used] w fun e w' => REnd b (rbareS v ws used) w e w' := by
  unfold rbareS
  by_cases h : ws = []
  · subst h
    obtain rfl : 1 = n := hW.n
    rw [if_pos rfl]
    rcases hv with rfl | rfl
    · rw [if_neg (by decide)]
      exact rbare_version hW used
    · rw [if_pos rfl]
      exact rbare_quit hW used
  · rw [if_neg h]
    exact rbare_many hW h used
end
end Go.Proofs.YtfcmnkhfmofioaaDoor
