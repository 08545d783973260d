/- The request that package lined makes of what a line's words say, with its body. Conditions: bodies of at most 1000 bytes. -/
import Derived.Test.YthofdmepofepgaaDoorG30Joined
import Derived.Deep.MidRow
namespace Go.Proofs.YthofdmepofepgaaDoor
set_option linter.unusedVariables false
open Go.RowKit

section
variable {w : World} {n0 : Nat} {s : Sd} {ca ta ka : Option Addr} {cc tc kc : Nat}
def okSd (r : Qv) (used : Int) : Sv := ⟨r, ⟨#[]⟩, used, 0, false, 0⟩
/-- What finish does: the rows are from block n0 on. -/
def FinEnd (n0 : Nat) (s : Sv) (w : World) (e : Ending) (w' : World) : Prop := ∃ ca cc ta tc ka kc, e = .returned (.agg (stC s ca cc ta tc ka kc)) ∧ (∀ W' : World, (∀ k, n0 ≤ k → k < w'.heap.size → W'.heap[k]? = w'.heap[k]?) → w'.heap.size ≤ W'.heap.size → QAt W' s.req ca cc ta tc ka kc) ∧ Gr (fun k => n0 ≤ k) w w'
theorem okSd_cells (s : Sd) (r : Qv) (n : Nat) (hn : s.req.cmds.length = n) (hr : r.form = s.req.form) (hc : r.cmds.length = n) (u : Int) (ca ta ka : Option Addr) (cc tc kc : Nat) : stC (okSd r u) ca cc ta tc ka kc = #[.slice ca n cc, .int .i64 s.req.form.dia, .string s.req.form.verb, .int .i64 s.req.form.code, .int .u32 s.req.form.opq, .bool s.req.form.quiet, .bool s.req.form.wcas, .string s.req.form.flags, .slice ta s.req.form.toks.length tc, .slice ka s.req.form.keys.length kc, .bool s.req.form.b64, .string ⟨#[]⟩, .int .i64 u, .int .i64 0, .bool false, .int .i64 0] := by
  obtain ⟨rc, rf⟩ := r
  simp only at hr hc
  subst hr
  show #[Value.slice ca rc.length cc, _, _, _, _, _, _, _, _, _, _, _, _, _, _, _] = _
  rw [hc]
  rfl
/-- The request in what the words say. -/
theorem sd_req {W : World} {q : Nat} {t : TypeId} (h : W.heap[q]? = some (.cells (sdC s ca cc ta tc ka kc) t (0, 0))) : W.rangeAt q 0 (rqC s.req ca cc ta tc ka kc).toList := fun j v hv => by
  have hj : j < 11 := (List.getElem?_eq_some_iff.1 hv).1
  rw [Nat.zero_add]
  unfold World.cell?
  rw [h]
  match j, hj with
  | 0, _ | 1, _ | 2, _ | 3, _ | 4, _ | 5, _ | 6, _ | 7, _ | 8, _ | 9, _ | 10, _ => exact hv
theorem sd_at {W : World} {q : Nat} {t : TypeId} (h : W.heap[q]? = some (.cells (sdC s ca cc ta tc ka kc) t (0, 0))) (j : Nat) (v : Value) (hv : (sdC s ca cc ta tc ka kc)[j]? = some v) : W.cell? ⟨q, j, none⟩ = some v := by
  unfold World.cell?
  rw [h]
  exact hv
theorem gr_n0 {w W : World} (h : w.grownBy W none) : Gr (fun k => n0 ≤ k) w W := ⟨h.1, h.2, h.3, h.4, fun k hk _ => h.5 k hk (by simp)⟩
theorem bare_end {W : World} {r : Nat} {old : Array Value} {s : Sv} (hs : s.req = noQ) (hr : W.heap[r]? = some (.cells old 33 (0, 0))) (hw : n0 ≤ r) (hg : Gr (fun k => n0 ≤ k) w W) :
    (W.setRow r (stC s none 0 none 0 none 0)).heap[r]? = some (.cells (stC s none 0 none 0 none 0) 33 (0, 0)) ∧ FinEnd n0 s w (.returned (.agg (stC s none 0 none 0 none 0))) (W.setRow r (stC s none 0 none 0 none 0)) :=
  ⟨setRow_heap W r old _ _ _ hr, none, 0, none, 0, none, 0, rfl, fun W' _ _ => by rw [hs]; exact QAt.none_ _, ⟨hg.os, hg.tape, hg.output, by rw [size_setRow]; exact hg.size, fun k hk hn => (setRow_other W r k _ (fun e => hn (by omega))).trans (hg.block k hk hn)⟩⟩
theorem rows_end {W : World} {r : Nat} {old : Array Value} {s : Sv} (hr : W.heap[r]? = some (.cells old 33 (0, 0))) (hw : n0 ≤ r) (hl : w.heap.size ≤ r) (hg : Gr (fun k => n0 ≤ k) w W) (hq : ∀ W' : World, (∀ k, n0 ≤ k → k < W.heap.size → k ≠ r → W'.heap[k]? = W.heap[k]?) → W.heap.size ≤ W'.heap.size → QAt W' s.req ca cc ta tc ka kc) :
    (W.setRow r (stC s ca cc ta tc ka kc)).heap[r]? = some (.cells (stC s ca cc ta tc ka kc) 33 (0, 0)) ∧ FinEnd n0 s w (.returned (.agg (stC s ca cc ta tc ka kc))) (W.setRow r (stC s ca cc ta tc ka kc)) :=
  ⟨setRow_heap W r old _ _ _ hr, ca, cc, ta, tc, ka, kc, rfl, fun W' hs hz => hq W' (fun k h1 h2 h3 => (hs k h1 (by rw [size_setRow]; exact h2)).trans (setRow_other W r k _ h3)) (by rw [size_setRow] at hz; exact hz), ⟨hg.os, hg.tape, hg.output, by rw [size_setRow]; exact hg.size, fun k hk hn => (setRow_other W r k _ (fun e => hn (by omega))).trans (hg.block k hk hn)⟩⟩
set_option maxRecDepth 100000 in
set_option maxHeartbeats 2000000 in
theorem finish_plain (hA : SdAt n0 w s ca cc ta tc ka kc) (hn : n0 ≤ w.heap.size) (hz : s.sized = false) (ba : Option Addr) (bl bc : Nat) (used : Int) : Calls Tryd.prog 22 #[.agg (sdC s ca cc ta tc ka kc), .slice ba bl bc, .int .i64 used] w fun e w' => FinEnd n0 (okSd s.req used) w e w' := by
  obtain ⟨W, hW⟩ : ∃ W, W = w.alloc (.cells (sdC s ca cc ta tc ka kc) 51) := ⟨_, rfl⟩
  obtain ⟨W0, hW0⟩ : ∃ W0, W0 = W.alloc (.cells #[.slice none 0 0, .int .i64 0, .string ⟨#[]⟩, .int .i64 0, .int .u32 0, .bool false, .bool false, .string ⟨#[]⟩, .slice none 0 0, .slice none 0 0, .bool false, .string ⟨#[]⟩, .int .i64 0, .int .i64 0, .bool false, .int .i64 0] 33) := ⟨_, rfl⟩
  have hs1 : W.heap.size = w.heap.size + 1 := by rw [hW, World.size_alloc]
  have g0 : w.grownBy W0 none := by rw [hW0, hW]; exact gr_trans (World.grownBy_alloc _ _ _) (World.grownBy_alloc _ _ _)
  have b0 : W0.heap[w.heap.size]? = some (.cells (sdC s ca cc ta tc ka kc) 51 (0, 0)) := by rw [hW0]; exact ((World.grownBy_alloc W _ none).block _ (by omega) (by simp)).trans (by rw [hW]; exact World.alloc_heap_new w _)
  have r0 : W0.heap[w.heap.size + 1]? = some (.cells #[.slice none 0 0, .int .i64 0, .string ⟨#[]⟩, .int .i64 0, .int .u32 0, .bool false, .bool false, .string ⟨#[]⟩, .slice none 0 0, .slice none 0 0, .bool false, .string ⟨#[]⟩, .int .i64 0, .int .i64 0, .bool false, .int .i64 0] 33 (0, 0)) := by rw [hW0, ← hs1]; exact World.alloc_heap_new W _
  have z0 : W0.heap.size = w.heap.size + 2 := by rw [hW0, World.size_alloc, hs1]
  have c13 : W0.cell? ⟨w.heap.size, 13, none⟩ = some (.bool s.sized) := sd_at b0 13 _ rfl
  have c12 : W0.cell? ⟨w.heap.size, 12, none⟩ = some (.int .u64 s.size) := sd_at b0 12 _ rfl
  have hlen : (sdC s ca cc ta tc ka kc).size = 14 := rfl
  rw [hz] at c13
  have hr := sd_req b0
  have HQ : Hid (rqC s.req ca cc ta tc ka kc = #[.slice ca s.req.cmds.length cc, .int .i64 s.req.form.dia, .string s.req.form.verb, .int .i64 s.req.form.code, .int .u32 s.req.form.opq, .bool s.req.form.quiet, .bool s.req.form.wcas, .string s.req.form.flags, .slice ta s.req.form.toks.length tc, .slice ka s.req.form.keys.length kc, .bool s.req.form.b64]) := by show rqC _ _ _ _ _ _ _ = _; rfl
  replace hr := hide hr
  have HS := hide (okSd_cells s s.req _ rfl rfl rfl used ca ta ka cc tc kc)
  have HE := hide (rows_end (s := okSd s.req used) (ca := ca) (cc := cc) (ta := ta) (tc := tc) (ka := ka) (kc := kc) r0 (by omega) (by omega) (gr_n0 (n0 := n0) g0) (fun W' k1 k2 => hA.q W' (fun k h1 h2 => (k1 k h1 (by omega) (by omega)).trans (g0.block k h2 (by simp))) (by omega)))
  have R0 := hide r0
  clear hA b0 r0 c12 hz hlen g0
  simp only [sdC] at hW ⊢
  go_enter Tryd.func22, Tryd.ntmps22
  go_upto_region 1 with fail
  rw [← hW]
  rw [← hW0]
  clear hW hW0
  go_wp2_with (first
    | (refine wpList_load_mid rfl 30 _ rfl w.heap.size 0 rfl (rqC s.req ca cc ta tc ka kc).toList _ hr.out Tryd.underlying30 rfl (by rw [req_size s.req ca ta ka cc tc kc, Array.length_toList]) ?_; rw [HQ.out])
    | (refine wpList_store_row rfl 33 _ _ rfl (w.heap.size + 1) (stC (okSd s.req used) ca cc ta tc ka kc) rfl (by rw [HS.out]; rfl) _ _ R0.out (step_size _ _ _ _ _ _ _) rfl (step_one _ _ _ _ _ _ _) ?_))
  exact step_ret rfl HE.out.1 rfl rfl HE.out.2
set_option maxRecDepth 100000 in
set_option maxHeartbeats 2000000 in
theorem finish_more (hn : n0 ≤ w.heap.size) (hz : s.sized = true) (hk : 0 ≤ s.size ∧ s.size ≤ 1000) {ba : Option Addr} {bl bc : Nat} {rest : List UInt8} (hb : Bu w ba bl bc rest) (used : Int) (hu : 0 ≤ used ∧ used ≤ 9223372036854000000) (he : (bodyN rest s.size).2.2 = 3) : Calls Tryd.prog 22 #[.agg (sdC s ca cc ta tc ka kc), .slice ba bl bc, .int .i64 used] w fun e w' => FinEnd n0 moreS w e w' := by
  obtain ⟨W, hW⟩ : ∃ W, W = w.alloc (.cells (sdC s ca cc ta tc ka kc) 51) := ⟨_, rfl⟩
  obtain ⟨W0, hW0⟩ : ∃ W0, W0 = W.alloc (.cells #[.slice none 0 0, .int .i64 0, .string ⟨#[]⟩, .int .i64 0, .int .u32 0, .bool false, .bool false, .string ⟨#[]⟩, .slice none 0 0, .slice none 0 0, .bool false, .string ⟨#[]⟩, .int .i64 0, .int .i64 0, .bool false, .int .i64 0] 33) := ⟨_, rfl⟩
  have hs1 : W.heap.size = w.heap.size + 1 := by rw [hW, World.size_alloc]
  have g0 : w.grownBy W0 none := by rw [hW0, hW]; exact gr_trans (World.grownBy_alloc _ _ _) (World.grownBy_alloc _ _ _)
  have b0 : W0.heap[w.heap.size]? = some (.cells (sdC s ca cc ta tc ka kc) 51 (0, 0)) := by rw [hW0]; exact ((World.grownBy_alloc W _ none).block _ (by omega) (by simp)).trans (by rw [hW]; exact World.alloc_heap_new w _)
  have r0 : W0.heap[w.heap.size + 1]? = some (.cells #[.slice none 0 0, .int .i64 0, .string ⟨#[]⟩, .int .i64 0, .int .u32 0, .bool false, .bool false, .string ⟨#[]⟩, .slice none 0 0, .slice none 0 0, .bool false, .string ⟨#[]⟩, .int .i64 0, .int .i64 0, .bool false, .int .i64 0] 33 (0, 0)) := by rw [hW0, ← hs1]; exact World.alloc_heap_new W _
  have z0 : W0.heap.size = w.heap.size + 2 := by rw [hW0, World.size_alloc, hs1]
  have c13 : W0.cell? ⟨w.heap.size, 13, none⟩ = some (.bool s.sized) := sd_at b0 13 _ rfl
  have c12 : W0.cell? ⟨w.heap.size, 12, none⟩ = some (.int .u64 s.size) := sd_at b0 12 _ rfl
  have hlen : (sdC s ca cc ta tc ka kc).size = 14 := rfl
  rw [hz] at c13
  have HB := hide (body_any (hb.on (below_gr g0)) s.size (by omega))
  have ew : wrap64 s.size = s.size := by unfold wrap64; omega
  have R0 := hide (fun (w1 : World) (g1 : W0.grownBy w1 none) => (g1.block (w.heap.size + 1) (by omega) (by simp)).trans r0)
  have G0 := hide g0
  have HE := hide (fun (w1 : World) (g1 : W0.grownBy w1 none) => bare_end (n0 := n0) (w := w) (s := moreS) rfl (R0.out w1 g1) (by omega) (gr_n0 (gr_trans G0.out g1)))
  generalize bodyN rest s.size = x at *
  obtain ⟨x1, x2, x3⟩ := x
  simp only [BodyEnd] at *
  subst he
  generalize s.size = z at *
  clear b0 r0 g0 hz hlen hb hk hu
  simp only [sdC] at hW ⊢
  go_enter Tryd.func22, Tryd.ntmps22
  go_upto_region 1 with fail
  rw [← hW]
  rw [← hW0]
  clear hW hW0
  go_wp2_with (first
    | (go_at_call 31; refine HB.out.mono ?_; rintro e w1 ⟨a1, c1, rfl, v1, g1⟩; replace v1 := hide v1; replace g1 := hide g1)
    | (refine wpList_store_row rfl 33 _ _ rfl (w.heap.size + 1) (stC moreS none 0 none 0 none 0) rfl rfl _ _ (R0.out w1 g1.out) (step_size _ _ _ _ _ _ _) rfl (step_one _ _ _ _ _ _ _) ?_))
  exact step_ret rfl (HE.out w1 g1.out).1 rfl rfl (HE.out w1 g1.out).2
theorem body_small (rest : List UInt8) (n : Int) (hk : 0 ≤ n ∧ n ≤ 1000) : 0 ≤ (bodyN rest n).2.1 ∧ (bodyN rest n).2.1 ≤ 1002 := by
  unfold bodyN
  repeat' split
  all_goals simp only []
  all_goals omega
set_option maxRecDepth 100000 in
set_option maxHeartbeats 2000000 in
theorem finish_bad (hn : n0 ≤ w.heap.size) (hz : s.sized = true) (hk : 0 ≤ s.size ∧ s.size ≤ 1000) {ba : Option Addr} {bl bc : Nat} {rest : List UInt8} (hb : Bu w ba bl bc rest) (used : Int) (hu : 0 ≤ used ∧ used ≤ 9223372036854000000) (he : (bodyN rest s.size).2.2 = 2) : Calls Tryd.prog 22 #[.agg (sdC s ca cc ta tc ka kc), .slice ba bl bc, .int .i64 used] w fun e w' => FinEnd n0 ({ refuseS t_chunk (used + (bodyN rest s.size).2.1) with line := true }) w e w' := by
  obtain ⟨W, hW⟩ : ∃ W, W = w.alloc (.cells (sdC s ca cc ta tc ka kc) 51) := ⟨_, rfl⟩
  obtain ⟨W0, hW0⟩ : ∃ W0, W0 = W.alloc (.cells #[.slice none 0 0, .int .i64 0, .string ⟨#[]⟩, .int .i64 0, .int .u32 0, .bool false, .bool false, .string ⟨#[]⟩, .slice none 0 0, .slice none 0 0, .bool false, .string ⟨#[]⟩, .int .i64 0, .int .i64 0, .bool false, .int .i64 0] 33) := ⟨_, rfl⟩
  have hs1 : W.heap.size = w.heap.size + 1 := by rw [hW, World.size_alloc]
  have g0 : w.grownBy W0 none := by rw [hW0, hW]; exact gr_trans (World.grownBy_alloc _ _ _) (World.grownBy_alloc _ _ _)
  have b0 : W0.heap[w.heap.size]? = some (.cells (sdC s ca cc ta tc ka kc) 51 (0, 0)) := by rw [hW0]; exact ((World.grownBy_alloc W _ none).block _ (by omega) (by simp)).trans (by rw [hW]; exact World.alloc_heap_new w _)
  have r0 : W0.heap[w.heap.size + 1]? = some (.cells #[.slice none 0 0, .int .i64 0, .string ⟨#[]⟩, .int .i64 0, .int .u32 0, .bool false, .bool false, .string ⟨#[]⟩, .slice none 0 0, .slice none 0 0, .bool false, .string ⟨#[]⟩, .int .i64 0, .int .i64 0, .bool false, .int .i64 0] 33 (0, 0)) := by rw [hW0, ← hs1]; exact World.alloc_heap_new W _
  have z0 : W0.heap.size = w.heap.size + 2 := by rw [hW0, World.size_alloc, hs1]
  have c13 : W0.cell? ⟨w.heap.size, 13, none⟩ = some (.bool s.sized) := sd_at b0 13 _ rfl
  have c12 : W0.cell? ⟨w.heap.size, 12, none⟩ = some (.int .u64 s.size) := sd_at b0 12 _ rfl
  have hlen : (sdC s ca cc ta tc ka kc).size = 14 := rfl
  rw [hz] at c13
  have HB := hide (body_any (hb.on (below_gr g0)) s.size (by omega))
  have ew : wrap64 s.size = s.size := by unfold wrap64; omega
  have R0 := hide (fun (w1 : World) (g1 : W0.grownBy w1 none) => (g1.block (w.heap.size + 1) (by omega) (by simp)).trans r0)
  have G0 := hide g0
  have hx2 := body_small rest s.size hk
  generalize bodyN rest s.size = x at *
  obtain ⟨x1, x2, x3⟩ := x
  simp only [BodyEnd] at *
  subst he
  have eu : wrap64 (used + x2) = used + x2 := by unfold wrap64; omega
  have HF := hide (fun W => refuse_any t_chunk (by decide) (used + x2) W)
  rw [← chunk_is] at HF
  have HE := hide (fun (w1 : World) (g1 : W0.grownBy w1 none) => bare_end (n0 := n0) (w := w) (s := { refuseS t_chunk (used + x2) with line := true }) rfl (R0.out w1 g1) (by omega) (gr_n0 (gr_trans G0.out g1)))
  have HS := hide (set_line (refuseS t_chunk (used + x2)) true none none none 0 0 0)
  generalize refuseS t_chunk (used + x2) = y at *
  generalize s.size = z at *
  clear b0 r0 g0 hz hlen hb hk hu hx2
  simp only [sdC] at hW ⊢
  go_enter Tryd.func22, Tryd.ntmps22
  go_upto_region 1 with fail
  rw [← hW]
  rw [← hW0]
  clear hW hW0
  go_wp2_with (first
    | (go_at_call 31; refine HB.out.mono ?_; rintro e w1 ⟨a1, c1, rfl, v1, g1⟩; replace v1 := hide v1; replace g1 := hide g1)
    | (go_at_call 18; refine (HF.out _).mono ?_; rintro e w2 ⟨rfl, g2⟩; obtain ⟨B, hB⟩ : ∃ B, B = w2.heap.size := ⟨_, rfl⟩; obtain ⟨W2, hW2⟩ : ∃ W2, W2 = w2.alloc (.cells (stC y none 0 none 0 none 0) 33) := ⟨_, rfl⟩; obtain ⟨c2, f2, n3, k3⟩ := cell_mid (j := 14) (v := .bool true) hW2 hB g1.out g2 rfl HS.out; obtain ⟨W3, hW3⟩ : ∃ W3, W3 = W2.setCell ⟨B, 14, none⟩ (.bool true) := ⟨_, rfl⟩; rw [← hW3] at n3 k3; replace n3 := hide n3; replace k3 := hide k3; have HW3 := hide hW3; clear hW3 g2)
    | (refine wpList_store_row rfl 33 _ _ rfl w2.heap.size (stC y none 0 none 0 none 0) rfl rfl _ _ (World.alloc_heap_new w2 _) (step_size _ _ _ _ _ _ _) rfl (step_one _ _ _ _ _ _ _) ?_; rw [setRow_alloc, ← hW2, ← hB]; clear hW2 hB)
    | (rw [← HW3.out]; refine wpList_load_row rfl 33 _ rfl B rfl _ (stC { y with line := true } none 0 none 0 none 0) _ _ n3.out Tryd.underlying33 rfl (step_size _ _ _ _ _ _ _) ?_)
    | (refine wpList_store_row rfl 33 _ _ rfl (w.heap.size + 1) (stC { y with line := true } none 0 none 0 none 0) rfl rfl _ _ (R0.out W3 k3.out) (step_size _ _ _ _ _ _ _) rfl (step_one _ _ _ _ _ _ _) ?_))
  exact step_ret rfl (HE.out W3 k3.out).1 rfl rfl (HE.out W3 k3.out).2
theorem gr_set {W0 w1 : World} {g : Nat} {v : Value} (h : W0.grownBy w1 none) (hg : n0 ≤ g) : Gr (fun k => n0 ≤ k) W0 (w1.setCell ⟨g, 2, none⟩ v) := ⟨h.1, h.2, h.3, by rw [World.size_setCell]; exact h.4, fun k hk hn => (heap_setCell_other _ _ _ _ (show k ≠ g by omega)).trans (h.5 k hk (by simp))⟩
set_option maxRecDepth 100000 in
set_option maxHeartbeats 2000000 in
theorem finish_ok (hA : SdAt n0 w s ca cc ta tc ka kc) (hn : n0 ≤ w.heap.size) (hz : s.sized = true) (hk : 0 ≤ s.size ∧ s.size ≤ 1000) {ba : Option Addr} {bl bc : Nat} {rest : List UInt8} (hb : Bu w ba bl bc rest) (used : Int) (hu : 0 ≤ used ∧ used ≤ 9223372036854000000) (he : (bodyN rest s.size).2.2 = 0) : Calls Tryd.prog 22 #[.agg (sdC s ca cc ta tc ka kc), .slice ba bl bc, .int .i64 used] w fun e w' => FinEnd n0 (okSd (putSd s (bodyN rest s.size).1) (used + (bodyN rest s.size).2.1)) w e w' := by
  obtain ⟨W, hW⟩ : ∃ W, W = w.alloc (.cells (sdC s ca cc ta tc ka kc) 51) := ⟨_, rfl⟩
  obtain ⟨W0, hW0⟩ : ∃ W0, W0 = W.alloc (.cells #[.slice none 0 0, .int .i64 0, .string ⟨#[]⟩, .int .i64 0, .int .u32 0, .bool false, .bool false, .string ⟨#[]⟩, .slice none 0 0, .slice none 0 0, .bool false, .string ⟨#[]⟩, .int .i64 0, .int .i64 0, .bool false, .int .i64 0] 33) := ⟨_, rfl⟩
  have hs1 : W.heap.size = w.heap.size + 1 := by rw [hW, World.size_alloc]
  have g0 : w.grownBy W0 none := by rw [hW0, hW]; exact gr_trans (World.grownBy_alloc _ _ _) (World.grownBy_alloc _ _ _)
  have b0 : W0.heap[w.heap.size]? = some (.cells (sdC s ca cc ta tc ka kc) 51 (0, 0)) := by rw [hW0]; exact ((World.grownBy_alloc W _ none).block _ (by omega) (by simp)).trans (by rw [hW]; exact World.alloc_heap_new w _)
  have r0 : W0.heap[w.heap.size + 1]? = some (.cells #[.slice none 0 0, .int .i64 0, .string ⟨#[]⟩, .int .i64 0, .int .u32 0, .bool false, .bool false, .string ⟨#[]⟩, .slice none 0 0, .slice none 0 0, .bool false, .string ⟨#[]⟩, .int .i64 0, .int .i64 0, .bool false, .int .i64 0] 33 (0, 0)) := by rw [hW0, ← hs1]; exact World.alloc_heap_new W _
  have z0 : W0.heap.size = w.heap.size + 2 := by rw [hW0, World.size_alloc, hs1]
  have c13 : W0.cell? ⟨w.heap.size, 13, none⟩ = some (.bool s.sized) := sd_at b0 13 _ rfl
  have c12 : W0.cell? ⟨w.heap.size, 12, none⟩ = some (.int .u64 s.size) := sd_at b0 12 _ rfl
  have hlen : (sdC s ca cc ta tc ka kc).size = 14 := rfl
  rw [hz] at c13
  have HB := hide (body_any (hb.on (below_gr g0)) s.size (by omega))
  have ew : wrap64 s.size = s.size := by unfold wrap64; omega
  have R0 := hide (fun (w1 : World) (g1 : W0.grownBy w1 none) => (g1.block (w.heap.size + 1) (by omega) (by simp)).trans r0)
  have G0 := hide g0
  have hx2 := body_small rest s.size hk
  generalize bodyN rest s.size = x at *
  obtain ⟨x1, x2, x3⟩ := x
  simp only [BodyEnd] at *
  subst he
  have eu : wrap64 (used + x2) = used + x2 := by unfold wrap64; omega
  obtain ⟨hone, g, x, hca, hg1, hg2, hgx, hgf, hput⟩ := hA.put hz
  have hpl : (putSd s x1).cmds.length = 1 := by unfold putSd; rw [List.length_map, hone]
  have HS := hide (okSd_cells s (putSd s x1) 1 hone rfl hpl (used + x2) ca ta ka cc tc kc)
  have HQ : Hid (rqC s.req ca cc ta tc ka kc = #[.slice ca 1 cc, .int .i64 s.req.form.dia, .string s.req.form.verb, .int .i64 s.req.form.code, .int .u32 s.req.form.opq, .bool s.req.form.quiet, .bool s.req.form.wcas, .string s.req.form.flags, .slice ta s.req.form.toks.length tc, .slice ka s.req.form.keys.length kc, .bool s.req.form.b64]) := by show rqC _ _ _ _ _ _ _ = _; unfold rqC; rw [hone]
  have M1 := hide (fun (w1 : World) (g1 : W0.grownBy w1 none) =>
    show w1.cell? ⟨w.heap.size, 0, none⟩ = some (.slice (some ⟨g, 0, none⟩) 1 cc) ∧ w1.cell? ⟨g, 2, none⟩ = some x ∧ w1.frozen? ⟨g, 2, none⟩ = false from by
      have hw := gr_trans g0 g1
      refine ⟨?_, (World.cell?_of_block (hw.block g hg2 (by simp))).trans hgx, (World.frozen?_of_block (hw.block g hg2 (by simp))).trans hgf⟩
      have : w1.cell? ⟨w.heap.size, 0, none⟩ = some (.slice ca s.req.cmds.length cc) := sd_at ((g1.block w.heap.size (by omega) (by simp)).trans b0) 0 _ rfl
      rw [hone, hca] at this
      exact this)
  have M2 := hide (fun (w1 : World) (vb : Option Addr) (vd : Nat) (g1 : W0.grownBy w1 none) =>
    show (w1.setCell ⟨g, 2, none⟩ (.slice vb x1.length vd)).rangeAt w.heap.size 0 (rqC s.req ca cc ta tc ka kc).toList ∧ (w1.setCell ⟨g, 2, none⟩ (.slice vb x1.length vd)).heap[w.heap.size + 1]? = some (.cells #[.slice none 0 0, .int .i64 0, .string ⟨#[]⟩, .int .i64 0, .int .u32 0, .bool false, .bool false, .string ⟨#[]⟩, .slice none 0 0, .slice none 0 0, .bool false, .string ⟨#[]⟩, .int .i64 0, .int .i64 0, .bool false, .int .i64 0] 33 (0, 0)) from
      ⟨sd_req ((heap_setCell_other _ _ _ _ (show w.heap.size ≠ g by omega)).trans ((g1.block w.heap.size (by omega) (by simp)).trans b0)), (heap_setCell_other _ _ _ _ (show w.heap.size + 1 ≠ g by omega)).trans (R0.out w1 g1)⟩)
  have HE := hide (fun (w1 : World) (vb : Option Addr) (vd n1 : Nat) (g1 : W0.grownBy w1 none) (hn1 : w.heap.size + 2 ≤ n1) (hv : ValAt n1 w1 vb vd x1) => rows_end (s := okSd (putSd s x1) (used + x2)) (n0 := n0) (w := w) (ca := ca) (cc := cc) (ta := ta) (tc := tc) (ka := ka) (kc := kc) (M2.out w1 vb vd g1).2 (by omega) (by omega) ((gr_n0 g0).trans (gr_set g1 hg1)) (fun W' k1 k2 => by
    rw [World.size_setCell] at k1 k2
    have h1 := g1.size
    refine hput w1 W' vb vd x1 (fun k _ hk => (gr_trans g0 g1).block k hk (by simp)) ?_ (fun k h2 h3 => k1 k h2 (by omega) (by omega)) (by omega)
    refine (show ValAt n1 W' vb vd x1 from own_same hv fun k hk => ?_).bu
    have h4 := own_at hv hk
    exact (k1 k (by omega) h4.2.1 (by omega)).trans (heap_setCell_other _ _ _ _ (show k ≠ g by omega))))
  clear hput hgx hgf hone hpl
  subst hca
  rw [HQ.out] at M2
  generalize s.size = z at *
  clear hA b0 r0 g0 hz hlen hb hk hu hx2
  simp only [sdC] at hW ⊢
  go_enter Tryd.func22, Tryd.ntmps22
  go_upto_region 1 with fail
  rw [← hW]
  rw [← hW0]
  clear hW hW0
  go_wp2_with (first
    | (go_at_call 31; refine HB.out.mono ?_; rintro e w1 ⟨a1, c1, rfl, v1, g1⟩; obtain ⟨m0, m2, mf⟩ := M1.out w1 g1; have M3 := hide (M2.out w1 a1 c1 g1); replace v1 := hide v1; replace g1 := hide g1)
    | (refine wpList_load_mid rfl 30 _ rfl w.heap.size 0 rfl (rqC s.req (some ⟨g, 0, none⟩) cc ta tc ka kc).toList _ (by rw [HQ.out]; exact M3.out.1) Tryd.underlying30 rfl (by rw [req_size s.req (some ⟨g, 0, none⟩) ta ka cc tc kc, Array.length_toList]) ?_; rw [HQ.out])
    | (refine wpList_store_row rfl 33 _ _ rfl (w.heap.size + 1) (stC (okSd (putSd s x1) (used + x2)) (some ⟨g, 0, none⟩) cc ta tc ka kc) rfl (by rw [HS.out]; rfl) _ _ M3.out.2 (step_size _ _ _ _ _ _ _) rfl (step_one _ _ _ _ _ _ _) ?_))
  have E1 := HE.out w1 a1 c1 _ g1.out (by omega) v1.out
  exact step_ret rfl E1.1 rfl rfl E1.2
theorem finish_any (hA : SdAt n0 w s ca cc ta tc ka kc) (hn : n0 ≤ w.heap.size) (hk : 0 ≤ s.size ∧ (s.sized = true → s.size ≤ 1000)) {ba : Option Addr} {bl bc : Nat} {rest : List UInt8} (hb : Bu w ba bl bc rest) (used : Int) (hu : 0 ≤ used ∧ used ≤ 9223372036854000000) : Calls Tryd.prog 22 #[.agg (sdC s ca cc ta tc ka kc), .slice ba bl bc, .int .i64 used] w fun e w' => FinEnd n0 (finSd s rest used) w e w' := by
  unfold finSd
  cases hz : s.sized
  · rw [if_pos rfl]
    exact finish_plain hA hn hz ba bl bc used
  · rw [if_neg (by simp)]
    have hk2 := And.intro hk.1 (hk.2 hz)
    have hw : (bodyN rest s.size).2.2 = 3 ∨ (bodyN rest s.size).2.2 = 2 ∨ (bodyN rest s.size).2.2 = 0 := by
      unfold bodyN
      repeat' split
      all_goals simp
    rcases hw with he | he | he
    · rw [if_pos he]
      exact finish_more hn hz hk2 hb used hu he
    · rw [if_neg (by omega), if_pos he]
      exact finish_bad hn hz hk2 hb used hu he
    · rw [if_neg (by omega), if_neg (by omega)]
      exact finish_ok hA hn hz hk2 hb used hu he
end
end Go.Proofs.YthofdmepofepgaaDoor
