/- The document's own text dialect: flush_all, delete, touch, incr and decr, path by path. Conditions: the words are not too long. -/
import Derived.Test.YtfcmnkhfmofioaaDoorRef14D
namespace Go.Proofs.YtfcmnkhfmofioaaDoor
set_option linter.unusedVariables false
set_option linter.unusedSimpArgs false
open Go.RowKit

/-- The form has its key. -/
structure Beg2 (w W1 W2 : World) (b cap : Nat) (v : List UInt8) (q : Bool) (x : List UInt8) : Prop where
  eq : W1.setCell ⟨w.heap.size + 1, 8, none⟩ (.slice (some ⟨b, 1, none⟩) 1 (cap - 1)) = W2
  old : W1.cell? ⟨w.heap.size + 1, 8, none⟩ = some (.slice none 0 0)
  fz : W1.frozen? ⟨w.heap.size + 1, 8, none⟩ = false
  gr : w.grownBy W2 none
  z : W2.heap.size = w.heap.size + 2
  res : W2.heap[w.heap.size]? = some (.cells zeroSt 34 (0, 0))
  frm : W2.heap[w.heap.size + 1]? = some (.cells (fmC (formO v q [mkB x]) none 0 (some ⟨b, 1, none⟩) (cap - 1)) 29 (0, 0))
theorem Beg.two {w W0 W1 : World} {v : List UInt8} {q : Bool} (B : Beg w W0 W1 (formO v q [])) (b cap : Nat) (x : List UInt8) : ∃ W2, Beg2 w W1 W2 b cap v q x := by
  have h := heap_setCell_same W1 (w.heap.size + 1) 8 _ _ (.slice (some ⟨b, 1, none⟩) 1 (cap - 1)) B.frm
  exact ⟨_, rfl, (fmr_cells B.frm).2.2.2.2.2.2.2.2.1, frozen_of_row _ _ _ _ _ B.frm, grPut B.gr (by omega) _, by rw [World.size_setCell]; exact B.z, (heap_setCell_other _ _ _ _ (show w.heap.size ≠ w.heap.size + 1 by omega)).trans B.res, h⟩
theorem slice_one {b n cap : Nat} (hn : 2 ≤ n) (hc : n ≤ cap) (W : World) : (Instr.sliceAt 27 (.slice (some ⟨b, 0, none⟩) n cap) (some (.int .i64 1)) (some (.int .i64 2)) none).run Tryd.prog W = .ok (.slice (some ⟨b, 1, none⟩) 1 (cap - 1)) W := by
  have h1 : (2 : Int) ≤ (cap : Int) := by omega
  have h2 : ¬ cap = 1 := by omega
  have e : (some (Addr.add ⟨b, 0, none⟩ 1) : Option Addr) = some ⟨b, 1, none⟩ := by rw [add_at]
  rw [← e]
  go_simp
theorem su_one {w W W' : World} {b n cap : Nat} {v x : List UInt8} {ws : List (List UInt8)} (hW : Ru w b 0 n cap (v :: x :: ws)) (hg : w.grownBy W none) (hw : W'.heap[b]? = W.heap[b]?) (hz : W.heap.size ≤ W'.heap.size) : Su W' (some ⟨b, 1, none⟩) 1 (cap - 1) [mkB x] := by
  have hn := hW.n
  have h : Ru W' b 0 n cap (v :: x :: ws) := (hW.on hg).keep hw hz
  have h1 := (h.drop 1 (by simp at hn; omega)).take 1 (by simp at hn; omega)
  exact h1.su
/-- One command of a key: the request may be read. -/
theorem one_keys {w W W' : World} {b n cap B : Nat} {v x : List UInt8} {ws : List (List UInt8)} {q : Bool} {used : Int} {c : Cv} (hW : Ru w b 0 n cap (v :: x :: ws)) (hg : w.grownBy W none) (hc : c.val = []) (hB : W.heap[B]? = some (.cells (cmC c none 0) 40 (0, 0))) (hl : w.heap.size < B) (hw : ∀ k, k = b ∨ w.heap.size < k → k < W.heap.size → W'.heap[k]? = W.heap[k]?) (hz : W.heap.size ≤ W'.heap.size) : QAt W' (oneS used c (formO v q [mkB x])).req (some ⟨B, 0, none⟩) 1 none 0 (some ⟨b, 1, none⟩) (cap - 1) :=
  one_qat ((hw B (.inr hl) (Array.getElem?_eq_some_iff.1 hB).1).trans hB) (by rw [hc]; exact bu_none _) (Su.none_ _) (su_one hW hg (hw b (.inl rfl) (Nat.lt_of_lt_of_le hW.lt hg.size)) hz)
section
variable {w : World} {b n cap : Nat} {v x y : List UInt8} {ws : List (List UInt8)} {q : Bool} {z : Int} {u : Nat}
set_option maxRecDepth 100000 in
set_option maxHeartbeats 2000000 in
theorem rflush_bad (hW : Ru w b 0 2 cap [vb_flush, x]) (hx : x.length ≤ 5000) (hz : sgn x = none) (used : Int) : Calls Tryd.prog 21 #[.slice (some ⟨b, 0, none⟩) 2 cap, .bool q, .int .i64 used] w fun e w' => REnd b (refuseS t_bad used) w e w' := by
  have hb := hW.lt
  have hc := hW.c
  have hn := hW.n
  obtain ⟨W0, W1, B⟩ := beg_of w (formO vb_flush q [])
  have a0 := (hW.on B.g0).at0 0 (by simp)
  have b0 := (hW.on B.gr).at0 0 (by simp)
  have b1 := (hW.on B.gr).at0 1 (by simp)
  have eW := B.eW
  have z0 := B.z0
  have HB := hide B
  have hl1 : w.heap.size < W1.heap.size := by have := HB.out.z; omega
  have HE := hide (fun (W : World) (g : W1.grownBy W none) => r_bare (w := w) (W := W) (b := b) (s := refuseS t_bad used) hb rfl ((g.block _ hl1 (by simp)).trans HB.out.res) (gr_trans HB.out.gr g))
  have HF := hide (fun W => rfault_any t_bad (by decide) used W)
  have R1 := hide (fun (W : World) (g : W1.grownBy W none) => (g.block _ hl1 (by simp)).trans HB.out.res)
  have HS := hide (fun W => rsgn_any x (by omega) W)
  rw [show sgnV x = 0 by rw [sgnV, hz]; rfl, show sgnB x = false by rw [sgnB, hz]; rfl] at HS
  simp only [mkB] at HS
  clear hz
  simp only [List.getElem_cons_zero, List.getElem_cons_succ, vb_flush, mkB] at a0 b0 b1
  clear B hb hW hl1 hn hc
  go_enter Tryd.func21, Tryd.ntmps21
  go_wp2_with (first
    | (refine wpList_store_row rfl 29 _ _ rfl (w.heap.size + 1) (fmC (formO vb_flush q []) none 0 none 0) rfl rfl _ _ (HB.out.nw _) (fmC_sizeO _ _ _ _ _) rfl (fmC_oneO _ _ _ _ _) ?_; rw [HB.out.st]; clear eW z0)
    | (go_at_call 35; refine (HS.out _).mono ?_; rintro e w8 ⟨rfl, rfl⟩)
    | (go_at_call 34; refine (rbad_any _).mono ?_; rintro e w7 ⟨rfl, rfl⟩)
    | (go_at_call 14; refine (HF.out _).mono ?_; rintro e w1 ⟨rfl, g1⟩; replace g1 := hide g1)
    | (refine wpList_store_row rfl 34 _ _ rfl w.heap.size (stC (refuseS t_bad used) none 0 none 0 none 0) rfl rfl _ _ (R1.out w1 g1.out) (step_size _ _ _ _ _ _ _) rfl (step_one _ _ _ _ _ _ _) ?_))
  exact step_ret rfl (HE.out w1 g1.out).1 rfl rfl (HE.out w1 g1.out).2
set_option maxRecDepth 100000 in
set_option maxHeartbeats 2000000 in
theorem rflush_none (hW : Ru w b 0 1 cap [vb_flush]) (used : Int) : Calls Tryd.prog 21 #[.slice (some ⟨b, 0, none⟩) 1 cap, .bool q, .int .i64 used] w fun e w' => REnd b (oneS used ⟨13, ⟨#[]⟩, [], 0, 0, 0, 0, 0, false, false⟩ (formO vb_flush q [])) w e w' := by
  have hb := hW.lt
  have hc := hW.c
  have hn := hW.n
  obtain ⟨W0, W1, B⟩ := beg_of w (formO vb_flush q [])
  have a0 := (hW.on B.g0).at0 0 (by simp)
  have b0 := (hW.on B.gr).at0 0 (by simp)
  have eW := B.eW
  have z0 := B.z0
  have HB := hide B
  have hl1 : w.heap.size < W1.heap.size := by have := HB.out.z; omega
  obtain ⟨f0, f1, f2, f3, f4, f5, f6, f7, f8, f9⟩ := fmr_cells HB.out.frm
  simp only [formO, List.length_nil, List.length_cons] at f0 f1 f2 f3 f4 f5 f6 f7 f8 f9
  have HE := hide (fun (W : World) (B : Nat) (g : W1.grownBy W none) (hl : W1.heap.size ≤ B) (hB : W.heap[B]? = some (.cells (cmC ⟨13, ⟨#[]⟩, [], 0, 0, 0, 0, 0, false, false⟩ none 0) 40 (0, 0))) => r_end (w := w) (W := W) (b := b) (s := oneS used ⟨13, ⟨#[]⟩, [], 0, 0, 0, 0, 0, false, false⟩ (formO vb_flush q [])) hb ((g.block _ hl1 (by simp)).trans HB.out.res) (gr_trans HB.out.gr g) fun W' hw hz => one_bare (W0 := w) (used := used) (c := ⟨13, ⟨#[]⟩, [], 0, 0, 0, 0, 0, false, false⟩) (f := (formO vb_flush q [])) rfl rfl rfl hB (by omega) W' hw)
  have HO := hide (fun W => rone_any used ⟨13, ⟨#[]⟩, [], 0, 0, 0, 0, 0, false, false⟩ none 0 (formO vb_flush q []) none 0 none 0 W)
  have R1 := hide (fun (W : World) (g : W1.grownBy W none) => (g.block _ hl1 (by simp)).trans HB.out.res)
  have HS := hide (fun W => rsgn_any [48] (by decide) W)
  rw [show sgnV [48] = 0 by kernel_rfl, show sgnB [48] = true by kernel_rfl] at HS
  simp only [mkB] at HS
  simp only [List.getElem_cons_zero, List.getElem_cons_succ, vb_flush, mkB] at a0 b0
  simp only [vb_flush, mkB] at f1
  clear B hb hW hl1 hn hc
  go_enter Tryd.func21, Tryd.ntmps21
  go_wp2_with (first
    | (refine wpList_store_row rfl 29 _ _ rfl (w.heap.size + 1) (fmC (formO vb_flush q []) none 0 none 0) rfl rfl _ _ (HB.out.nw _) (fmC_sizeO _ _ _ _ _) rfl (fmC_oneO _ _ _ _ _) ?_; rw [HB.out.st]; clear eW z0)
    | (go_at_call 35; refine (HS.out _).mono ?_; rintro e w8 ⟨rfl, rfl⟩)
    | (go_at_call 36; go_loud (refine (HO.out W1).mono ?_); rintro e w3 ⟨B, b1, b2, rfl, hB, g3⟩; have g4 := hide g3; have EE := hide (HE.out w3 B g3 b1 hB); clear b1 b2 hB g3 HE)
    | (refine wpList_store_row rfl 34 _ _ rfl w.heap.size (stC (oneS used ⟨13, ⟨#[]⟩, [], 0, 0, 0, 0, 0, false, false⟩ (formO vb_flush q [])) (some ⟨B, 0, none⟩) 1 none 0 none 0) rfl rfl _ _ (R1.out w3 g4.out) (step_size _ _ _ _ _ _ _) rfl (step_one _ _ _ _ _ _ _) ?_))
  exact step_ret rfl EE.out.1 rfl rfl EE.out.2
set_option maxRecDepth 100000 in
set_option maxHeartbeats 2000000 in
theorem rflush_some (hW : Ru w b 0 2 cap [vb_flush, x]) (hx : x.length ≤ 5000) (hz : sgn x = some z) (used : Int) : Calls Tryd.prog 21 #[.slice (some ⟨b, 0, none⟩) 2 cap, .bool q, .int .i64 used] w fun e w' => REnd b (oneS used ⟨13, ⟨#[]⟩, [], 0, z, 0, 0, 0, false, false⟩ (formO vb_flush q [])) w e w' := by
  have hb := hW.lt
  have hc := hW.c
  have hn := hW.n
  obtain ⟨W0, W1, B⟩ := beg_of w (formO vb_flush q [])
  have a0 := (hW.on B.g0).at0 0 (by simp)
  have b0 := (hW.on B.gr).at0 0 (by simp)
  have b1 := (hW.on B.gr).at0 1 (by simp)
  have eW := B.eW
  have z0 := B.z0
  have HB := hide B
  have hl1 : w.heap.size < W1.heap.size := by have := HB.out.z; omega
  obtain ⟨f0, f1, f2, f3, f4, f5, f6, f7, f8, f9⟩ := fmr_cells HB.out.frm
  simp only [formO, List.length_nil, List.length_cons] at f0 f1 f2 f3 f4 f5 f6 f7 f8 f9
  have HE := hide (fun (W : World) (B : Nat) (g : W1.grownBy W none) (hl : W1.heap.size ≤ B) (hB : W.heap[B]? = some (.cells (cmC ⟨13, ⟨#[]⟩, [], 0, z, 0, 0, 0, false, false⟩ none 0) 40 (0, 0))) => r_end (w := w) (W := W) (b := b) (s := oneS used ⟨13, ⟨#[]⟩, [], 0, z, 0, 0, 0, false, false⟩ (formO vb_flush q [])) hb ((g.block _ hl1 (by simp)).trans HB.out.res) (gr_trans HB.out.gr g) fun W' hw hz => one_bare (W0 := w) (used := used) (c := ⟨13, ⟨#[]⟩, [], 0, z, 0, 0, 0, false, false⟩) (f := (formO vb_flush q [])) rfl rfl rfl hB (by omega) W' hw)
  have HO := hide (fun W => rone_any used ⟨13, ⟨#[]⟩, [], 0, z, 0, 0, 0, false, false⟩ none 0 (formO vb_flush q []) none 0 none 0 W)
  have R1 := hide (fun (W : World) (g : W1.grownBy W none) => (g.block _ hl1 (by simp)).trans HB.out.res)
  have HS := hide (fun W => rsgn_any x (by omega) W)
  rw [show sgnV x = z by rw [sgnV, hz]; rfl, show sgnB x = true by rw [sgnB, hz]; rfl] at HS
  simp only [mkB] at HS
  clear hz
  simp only [List.getElem_cons_zero, List.getElem_cons_succ, vb_flush, mkB] at a0 b0 b1
  simp only [vb_flush, mkB] at f1
  clear B hb hW hl1 hn hc
  go_enter Tryd.func21, Tryd.ntmps21
  go_wp2_with (first
    | (refine wpList_store_row rfl 29 _ _ rfl (w.heap.size + 1) (fmC (formO vb_flush q []) none 0 none 0) rfl rfl _ _ (HB.out.nw _) (fmC_sizeO _ _ _ _ _) rfl (fmC_oneO _ _ _ _ _) ?_; rw [HB.out.st]; clear eW z0)
    | (go_at_call 35; refine (HS.out _).mono ?_; rintro e w8 ⟨rfl, rfl⟩)
    | (go_at_call 36; go_loud (refine (HO.out W1).mono ?_); rintro e w3 ⟨B, b1, b2, rfl, hB, g3⟩; have g4 := hide g3; have EE := hide (HE.out w3 B g3 b1 hB); clear b1 b2 hB g3 HE)
    | (refine wpList_store_row rfl 34 _ _ rfl w.heap.size (stC (oneS used ⟨13, ⟨#[]⟩, [], 0, z, 0, 0, 0, false, false⟩ (formO vb_flush q [])) (some ⟨B, 0, none⟩) 1 none 0 none 0) rfl rfl _ _ (R1.out w3 g4.out) (step_size _ _ _ _ _ _ _) rfl (step_one _ _ _ _ _ _ _) ?_))
  exact step_ret rfl EE.out.1 rfl rfl EE.out.2
set_option maxRecDepth 100000 in
set_option maxHeartbeats 2000000 in
theorem rdelete_few (hW : Ru w b 0 n cap (vb_delete :: ws)) (hne : n ≠ 2) (used : Int) : Calls Tryd.prog 21 #[.slice (some ⟨b, 0, none⟩) n cap, .bool q, .int .i64 used] w fun e w' => REnd b (refuseS t_ERROR used) w e w' := by
  have hb := hW.lt
  have hc := hW.c
  have hn := hW.n
  obtain ⟨W0, W1, B⟩ := beg_of w (formO vb_delete q [])
  have a0 := (hW.on B.g0).at0 0 (by simp)
  have b0 := (hW.on B.gr).at0 0 (by simp)
  have eW := B.eW
  have z0 := B.z0
  have HB := hide B
  have hl1 : w.heap.size < W1.heap.size := by have := HB.out.z; omega
  have HE := hide (fun (W : World) (g : W1.grownBy W none) => r_bare (w := w) (W := W) (b := b) (s := refuseS t_ERROR used) hb rfl ((g.block _ hl1 (by simp)).trans HB.out.res) (gr_trans HB.out.gr g))
  have HF := hide (fun W => rfault_any t_ERROR (by decide) used W)
  simp only [t_ERROR, mkB] at HF
  have R1 := hide (fun (W : World) (g : W1.grownBy W none) => (g.block _ hl1 (by simp)).trans HB.out.res)
  have hni : ¬ (n : Int) = 2 := by omega
  have hnb : ((n : Int) == 2) = false := by rw [beq_eq_false_iff_ne]; exact hni
  have hn0 : ¬ (n : Int) ≤ 0 := by simp at hn; omega
  clear hne hni
  simp only [List.getElem_cons_zero, List.getElem_cons_succ, vb_delete, mkB] at a0 b0
  clear B hb hW hl1 hn hc
  go_enter Tryd.func21, Tryd.ntmps21
  go_wp2_with (first
    | (refine wpList_store_row rfl 29 _ _ rfl (w.heap.size + 1) (fmC (formO vb_delete q []) none 0 none 0) rfl rfl _ _ (HB.out.nw _) (fmC_sizeO _ _ _ _ _) rfl (fmC_oneO _ _ _ _ _) ?_; rw [HB.out.st]; clear eW z0)
    | (go_at_call 14; refine (HF.out _).mono ?_; rintro e w1 ⟨rfl, g1⟩; replace g1 := hide g1)
    | (refine wpList_store_row rfl 34 _ _ rfl w.heap.size (stC (refuseS t_ERROR used) none 0 none 0 none 0) rfl rfl _ _ (R1.out w1 g1.out) (step_size _ _ _ _ _ _ _) rfl (step_one _ _ _ _ _ _ _) ?_))
  exact step_ret rfl (HE.out w1 g1.out).1 rfl rfl (HE.out w1 g1.out).2
set_option maxRecDepth 100000 in
set_option maxHeartbeats 2000000 in
theorem rdelete_key (hW : Ru w b 0 2 cap [vb_delete, x]) (hk : keyN x = false) (used : Int) : Calls Tryd.prog 21 #[.slice (some ⟨b, 0, none⟩) 2 cap, .bool q, .int .i64 used] w fun e w' => REnd b (refuseS t_bad used) w e w' := by
  have hb := hW.lt
  have hc := hW.c
  have hn := hW.n
  obtain ⟨W0, W1, B⟩ := beg_of w (formO vb_delete q [])
  obtain ⟨W2, B2⟩ := B.two b cap x
  have a0 := (hW.on B.g0).at0 0 (by simp)
  have b0 := (hW.on B.gr).at0 0 (by simp)
  have c0 := (hW.on B2.gr).at0 0 (by simp)
  have b1 := (hW.on B.gr).at0 1 (by simp)
  have c1 := (hW.on B2.gr).at0 1 (by simp)
  have eW := B.eW
  have z0 := B.z0
  have HB := hide B
  have e2 := B2.eq
  have o2 := B2.old
  have y2 := B2.fz
  have HB2 := hide B2
  have s2 := fun W => slice_one (b := b) (n := 2) (cap := cap) (by omega) hc W
  have hl1 : w.heap.size < W2.heap.size := by have := HB2.out.z; omega
  have HE := hide (fun (W : World) (g : W2.grownBy W none) => r_bare (w := w) (W := W) (b := b) (s := refuseS t_bad used) hb rfl ((g.block _ hl1 (by simp)).trans HB2.out.res) (gr_trans HB2.out.gr g))
  have HF := hide (fun W => rfault_any t_bad (by decide) used W)
  have R1 := hide (fun (W : World) (g : W2.grownBy W none) => (g.block _ hl1 (by simp)).trans HB2.out.res)
  have HK := hide (fun W => rkey_any (mkB x) W)
  rw [mkB_list, hk] at HK
  simp only [mkB] at HK
  clear hk
  simp only [List.getElem_cons_zero, List.getElem_cons_succ, vb_delete, mkB] at a0 b0 c0 b1 c1
  clear B hb hW hl1 hn hc B2
  go_enter Tryd.func21, Tryd.ntmps21
  go_wp2_with (first
    | (refine wpList_store_row rfl 29 _ _ rfl (w.heap.size + 1) (fmC (formO vb_delete q []) none 0 none 0) rfl rfl _ _ (HB.out.nw _) (fmC_sizeO _ _ _ _ _) rfl (fmC_oneO _ _ _ _ _) ?_; rw [HB.out.st]; clear eW z0)
    | (go_at_call 38; refine (HK.out _).mono ?_; rintro e w9 ⟨rfl, rfl⟩)
    | (go_at_call 34; refine (rbad_any _).mono ?_; rintro e w7 ⟨rfl, rfl⟩)
    | (go_at_call 14; refine (HF.out _).mono ?_; rintro e w1 ⟨rfl, g1⟩; replace g1 := hide g1)
    | (refine wpList_store_row rfl 34 _ _ rfl w.heap.size (stC (refuseS t_bad used) none 0 none 0 none 0) rfl rfl _ _ (R1.out w1 g1.out) (step_size _ _ _ _ _ _ _) rfl (step_one _ _ _ _ _ _ _) ?_))
  exact step_ret rfl (HE.out w1 g1.out).1 rfl rfl (HE.out w1 g1.out).2
set_option maxRecDepth 100000 in
set_option maxHeartbeats 2000000 in
theorem rtouch_few (hW : Ru w b 0 n cap (vb_touch :: ws)) (hne : n ≠ 3) (used : Int) : Calls Tryd.prog 21 #[.slice (some ⟨b, 0, none⟩) n cap, .bool q, .int .i64 used] w fun e w' => REnd b (refuseS t_ERROR used) w e w' := by
  have hb := hW.lt
  have hc := hW.c
  have hn := hW.n
  obtain ⟨W0, W1, B⟩ := beg_of w (formO vb_touch q [])
  have a0 := (hW.on B.g0).at0 0 (by simp)
  have b0 := (hW.on B.gr).at0 0 (by simp)
  have eW := B.eW
  have z0 := B.z0
  have HB := hide B
  have hl1 : w.heap.size < W1.heap.size := by have := HB.out.z; omega
  have HE := hide (fun (W : World) (g : W1.grownBy W none) => r_bare (w := w) (W := W) (b := b) (s := refuseS t_ERROR used) hb rfl ((g.block _ hl1 (by simp)).trans HB.out.res) (gr_trans HB.out.gr g))
  have HF := hide (fun W => rfault_any t_ERROR (by decide) used W)
  simp only [t_ERROR, mkB] at HF
  have R1 := hide (fun (W : World) (g : W1.grownBy W none) => (g.block _ hl1 (by simp)).trans HB.out.res)
  have hni : ¬ (n : Int) = 3 := by omega
  have hnb : ((n : Int) == 3) = false := by rw [beq_eq_false_iff_ne]; exact hni
  have hn0 : ¬ (n : Int) ≤ 0 := by simp at hn; omega
  clear hne hni
  simp only [List.getElem_cons_zero, List.getElem_cons_succ, vb_touch, mkB] at a0 b0
  clear B hb hW hl1 hn hc
  go_enter Tryd.func21, Tryd.ntmps21
  go_wp2_with (first
    | (refine wpList_store_row rfl 29 _ _ rfl (w.heap.size + 1) (fmC (formO vb_touch q []) none 0 none 0) rfl rfl _ _ (HB.out.nw _) (fmC_sizeO _ _ _ _ _) rfl (fmC_oneO _ _ _ _ _) ?_; rw [HB.out.st]; clear eW z0)
    | (go_at_call 14; refine (HF.out _).mono ?_; rintro e w1 ⟨rfl, g1⟩; replace g1 := hide g1)
    | (refine wpList_store_row rfl 34 _ _ rfl w.heap.size (stC (refuseS t_ERROR used) none 0 none 0 none 0) rfl rfl _ _ (R1.out w1 g1.out) (step_size _ _ _ _ _ _ _) rfl (step_one _ _ _ _ _ _ _) ?_))
  exact step_ret rfl (HE.out w1 g1.out).1 rfl rfl (HE.out w1 g1.out).2
set_option maxRecDepth 100000 in
set_option maxHeartbeats 2000000 in
theorem rtouch_key (hW : Ru w b 0 3 cap [vb_touch, x, y]) (hk : keyN x = false) (used : Int) : Calls Tryd.prog 21 #[.slice (some ⟨b, 0, none⟩) 3 cap, .bool q, .int .i64 used] w fun e w' => REnd b (refuseS t_bad used) w e w' := by
  have hb := hW.lt
  have hc := hW.c
  have hn := hW.n
  obtain ⟨W0, W1, B⟩ := beg_of w (formO vb_touch q [])
  obtain ⟨W2, B2⟩ := B.two b cap x
  have a0 := (hW.on B.g0).at0 0 (by simp)
  have b0 := (hW.on B.gr).at0 0 (by simp)
  have c0 := (hW.on B2.gr).at0 0 (by simp)
  have b1 := (hW.on B.gr).at0 1 (by simp)
  have c1 := (hW.on B2.gr).at0 1 (by simp)
  have b2 := (hW.on B.gr).at0 2 (by simp)
  have c2 := (hW.on B2.gr).at0 2 (by simp)
  have eW := B.eW
  have z0 := B.z0
  have HB := hide B
  have e2 := B2.eq
  have o2 := B2.old
  have y2 := B2.fz
  have HB2 := hide B2
  have s2 := fun W => slice_one (b := b) (n := 3) (cap := cap) (by omega) hc W
  have hl1 : w.heap.size < W2.heap.size := by have := HB2.out.z; omega
  have HE := hide (fun (W : World) (g : W2.grownBy W none) => r_bare (w := w) (W := W) (b := b) (s := refuseS t_bad used) hb rfl ((g.block _ hl1 (by simp)).trans HB2.out.res) (gr_trans HB2.out.gr g))
  have HF := hide (fun W => rfault_any t_bad (by decide) used W)
  have R1 := hide (fun (W : World) (g : W2.grownBy W none) => (g.block _ hl1 (by simp)).trans HB2.out.res)
  have HK := hide (fun W => rkey_any (mkB x) W)
  rw [mkB_list, hk] at HK
  simp only [mkB] at HK
  clear hk
  simp only [List.getElem_cons_zero, List.getElem_cons_succ, vb_touch, mkB] at a0 b0 c0 b1 c1 b2 c2
  clear B hb hW hl1 hn hc B2
  go_enter Tryd.func21, Tryd.ntmps21
  go_wp2_with (first
    | (refine wpList_store_row rfl 29 _ _ rfl (w.heap.size + 1) (fmC (formO vb_touch q []) none 0 none 0) rfl rfl _ _ (HB.out.nw _) (fmC_sizeO _ _ _ _ _) rfl (fmC_oneO _ _ _ _ _) ?_; rw [HB.out.st]; clear eW z0)
    | (go_at_call 38; refine (HK.out _).mono ?_; rintro e w9 ⟨rfl, rfl⟩)
    | (go_at_call 34; refine (rbad_any _).mono ?_; rintro e w7 ⟨rfl, rfl⟩)
    | (go_at_call 14; refine (HF.out _).mono ?_; rintro e w1 ⟨rfl, g1⟩; replace g1 := hide g1)
    | (refine wpList_store_row rfl 34 _ _ rfl w.heap.size (stC (refuseS t_bad used) none 0 none 0 none 0) rfl rfl _ _ (R1.out w1 g1.out) (step_size _ _ _ _ _ _ _) rfl (step_one _ _ _ _ _ _ _) ?_))
  exact step_ret rfl (HE.out w1 g1.out).1 rfl rfl (HE.out w1 g1.out).2
set_option maxRecDepth 100000 in
set_option maxHeartbeats 2000000 in
theorem rincr_few (hW : Ru w b 0 n cap (vb_incr :: ws)) (hne : n ≠ 3) (used : Int) : Calls Tryd.prog 21 #[.slice (some ⟨b, 0, none⟩) n cap, .bool q, .int .i64 used] w fun e w' => REnd b (refuseS t_ERROR used) w e w' := by
  have hb := hW.lt
  have hc := hW.c
  have hn := hW.n
  obtain ⟨W0, W1, B⟩ := beg_of w (formO vb_incr q [])
  have a0 := (hW.on B.g0).at0 0 (by simp)
  have b0 := (hW.on B.gr).at0 0 (by simp)
  have eW := B.eW
  have z0 := B.z0
  have HB := hide B
  have hl1 : w.heap.size < W1.heap.size := by have := HB.out.z; omega
  have HE := hide (fun (W : World) (g : W1.grownBy W none) => r_bare (w := w) (W := W) (b := b) (s := refuseS t_ERROR used) hb rfl ((g.block _ hl1 (by simp)).trans HB.out.res) (gr_trans HB.out.gr g))
  have HF := hide (fun W => rfault_any t_ERROR (by decide) used W)
  simp only [t_ERROR, mkB] at HF
  have R1 := hide (fun (W : World) (g : W1.grownBy W none) => (g.block _ hl1 (by simp)).trans HB.out.res)
  have hni : ¬ (n : Int) = 3 := by omega
  have hnb : ((n : Int) == 3) = false := by rw [beq_eq_false_iff_ne]; exact hni
  have hn0 : ¬ (n : Int) ≤ 0 := by simp at hn; omega
  clear hne hni
  simp only [List.getElem_cons_zero, List.getElem_cons_succ, vb_incr, mkB] at a0 b0
  clear B hb hW hl1 hn hc
  go_enter Tryd.func21, Tryd.ntmps21
  go_wp2_with (first
    | (refine wpList_store_row rfl 29 _ _ rfl (w.heap.size + 1) (fmC (formO vb_incr q []) none 0 none 0) rfl rfl _ _ (HB.out.nw _) (fmC_sizeO _ _ _ _ _) rfl (fmC_oneO _ _ _ _ _) ?_; rw [HB.out.st]; clear eW z0)
    | (go_at_call 14; refine (HF.out _).mono ?_; rintro e w1 ⟨rfl, g1⟩; replace g1 := hide g1)
    | (refine wpList_store_row rfl 34 _ _ rfl w.heap.size (stC (refuseS t_ERROR used) none 0 none 0 none 0) rfl rfl _ _ (R1.out w1 g1.out) (step_size _ _ _ _ _ _ _) rfl (step_one _ _ _ _ _ _ _) ?_))
  exact step_ret rfl (HE.out w1 g1.out).1 rfl rfl (HE.out w1 g1.out).2
set_option maxRecDepth 100000 in
set_option maxHeartbeats 2000000 in
theorem rincr_key (hW : Ru w b 0 3 cap [vb_incr, x, y]) (hk : keyN x = false) (used : Int) : Calls Tryd.prog 21 #[.slice (some ⟨b, 0, none⟩) 3 cap, .bool q, .int .i64 used] w fun e w' => REnd b (refuseS t_bad used) w e w' := by
  have hb := hW.lt
  have hc := hW.c
  have hn := hW.n
  obtain ⟨W0, W1, B⟩ := beg_of w (formO vb_incr q [])
  obtain ⟨W2, B2⟩ := B.two b cap x
  have a0 := (hW.on B.g0).at0 0 (by simp)
  have b0 := (hW.on B.gr).at0 0 (by simp)
  have c0 := (hW.on B2.gr).at0 0 (by simp)
  have b1 := (hW.on B.gr).at0 1 (by simp)
  have c1 := (hW.on B2.gr).at0 1 (by simp)
  have b2 := (hW.on B.gr).at0 2 (by simp)
  have c2 := (hW.on B2.gr).at0 2 (by simp)
  have eW := B.eW
  have z0 := B.z0
  have HB := hide B
  have e2 := B2.eq
  have o2 := B2.old
  have y2 := B2.fz
  have HB2 := hide B2
  have s2 := fun W => slice_one (b := b) (n := 3) (cap := cap) (by omega) hc W
  have hl1 : w.heap.size < W2.heap.size := by have := HB2.out.z; omega
  have HE := hide (fun (W : World) (g : W2.grownBy W none) => r_bare (w := w) (W := W) (b := b) (s := refuseS t_bad used) hb rfl ((g.block _ hl1 (by simp)).trans HB2.out.res) (gr_trans HB2.out.gr g))
  have HF := hide (fun W => rfault_any t_bad (by decide) used W)
  have R1 := hide (fun (W : World) (g : W2.grownBy W none) => (g.block _ hl1 (by simp)).trans HB2.out.res)
  have HK := hide (fun W => rkey_any (mkB x) W)
  rw [mkB_list, hk] at HK
  simp only [mkB] at HK
  clear hk
  simp only [List.getElem_cons_zero, List.getElem_cons_succ, vb_incr, mkB] at a0 b0 c0 b1 c1 b2 c2
  clear B hb hW hl1 hn hc B2
  go_enter Tryd.func21, Tryd.ntmps21
  go_wp2_with (first
    | (refine wpList_store_row rfl 29 _ _ rfl (w.heap.size + 1) (fmC (formO vb_incr q []) none 0 none 0) rfl rfl _ _ (HB.out.nw _) (fmC_sizeO _ _ _ _ _) rfl (fmC_oneO _ _ _ _ _) ?_; rw [HB.out.st]; clear eW z0)
    | (go_at_call 38; refine (HK.out _).mono ?_; rintro e w9 ⟨rfl, rfl⟩)
    | (go_at_call 34; refine (rbad_any _).mono ?_; rintro e w7 ⟨rfl, rfl⟩)
    | (go_at_call 14; refine (HF.out _).mono ?_; rintro e w1 ⟨rfl, g1⟩; replace g1 := hide g1)
    | (refine wpList_store_row rfl 34 _ _ rfl w.heap.size (stC (refuseS t_bad used) none 0 none 0 none 0) rfl rfl _ _ (R1.out w1 g1.out) (step_size _ _ _ _ _ _ _) rfl (step_one _ _ _ _ _ _ _) ?_))
  exact step_ret rfl (HE.out w1 g1.out).1 rfl rfl (HE.out w1 g1.out).2
set_option maxRecDepth 100000 in
set_option maxHeartbeats 2000000 in
theorem rdecr_few (hW : Ru w b 0 n cap (vb_decr :: ws)) (hne : n ≠ 3) (used : Int) : Calls Tryd.prog 21 #[.slice (some ⟨b, 0, none⟩) n cap, .bool q, .int .i64 used] w fun e w' => REnd b (refuseS t_ERROR used) w e w' := by
  have hb := hW.lt
  have hc := hW.c
  have hn := hW.n
  obtain ⟨W0, W1, B⟩ := beg_of w (formO vb_decr q [])
  have a0 := (hW.on B.g0).at0 0 (by simp)
  have b0 := (hW.on B.gr).at0 0 (by simp)
  have eW := B.eW
  have z0 := B.z0
  have HB := hide B
  have hl1 : w.heap.size < W1.heap.size := by have := HB.out.z; omega
  have HE := hide (fun (W : World) (g : W1.grownBy W none) => r_bare (w := w) (W := W) (b := b) (s := refuseS t_ERROR used) hb rfl ((g.block _ hl1 (by simp)).trans HB.out.res) (gr_trans HB.out.gr g))
  have HF := hide (fun W => rfault_any t_ERROR (by decide) used W)
  simp only [t_ERROR, mkB] at HF
  have R1 := hide (fun (W : World) (g : W1.grownBy W none) => (g.block _ hl1 (by simp)).trans HB.out.res)
  have hni : ¬ (n : Int) = 3 := by omega
  have hnb : ((n : Int) == 3) = false := by rw [beq_eq_false_iff_ne]; exact hni
  have hn0 : ¬ (n : Int) ≤ 0 := by simp at hn; omega
  clear hne hni
  simp only [List.getElem_cons_zero, List.getElem_cons_succ, vb_decr, mkB] at a0 b0
  clear B hb hW hl1 hn hc
  go_enter Tryd.func21, Tryd.ntmps21
  go_wp2_with (first
    | (refine wpList_store_row rfl 29 _ _ rfl (w.heap.size + 1) (fmC (formO vb_decr q []) none 0 none 0) rfl rfl _ _ (HB.out.nw _) (fmC_sizeO _ _ _ _ _) rfl (fmC_oneO _ _ _ _ _) ?_; rw [HB.out.st]; clear eW z0)
    | (go_at_call 14; refine (HF.out _).mono ?_; rintro e w1 ⟨rfl, g1⟩; replace g1 := hide g1)
    | (refine wpList_store_row rfl 34 _ _ rfl w.heap.size (stC (refuseS t_ERROR used) none 0 none 0 none 0) rfl rfl _ _ (R1.out w1 g1.out) (step_size _ _ _ _ _ _ _) rfl (step_one _ _ _ _ _ _ _) ?_))
  exact step_ret rfl (HE.out w1 g1.out).1 rfl rfl (HE.out w1 g1.out).2
set_option maxRecDepth 100000 in
set_option maxHeartbeats 2000000 in
theorem rdecr_key (hW : Ru w b 0 3 cap [vb_decr, x, y]) (hk : keyN x = false) (used : Int) : Calls Tryd.prog 21 #[.slice (some ⟨b, 0, none⟩) 3 cap, .bool q, .int .i64 used] w fun e w' => REnd b (refuseS t_bad used) w e w' := by
  have hb := hW.lt
  have hc := hW.c
  have hn := hW.n
  obtain ⟨W0, W1, B⟩ := beg_of w (formO vb_decr q [])
  obtain ⟨W2, B2⟩ := B.two b cap x
  have a0 := (hW.on B.g0).at0 0 (by simp)
  have b0 := (hW.on B.gr).at0 0 (by simp)
  have c0 := (hW.on B2.gr).at0 0 (by simp)
  have b1 := (hW.on B.gr).at0 1 (by simp)
  have c1 := (hW.on B2.gr).at0 1 (by simp)
  have b2 := (hW.on B.gr).at0 2 (by simp)
  have c2 := (hW.on B2.gr).at0 2 (by simp)
  have eW := B.eW
  have z0 := B.z0
  have HB := hide B
  have e2 := B2.eq
  have o2 := B2.old
  have y2 := B2.fz
  have HB2 := hide B2
  have s2 := fun W => slice_one (b := b) (n := 3) (cap := cap) (by omega) hc W
  have hl1 : w.heap.size < W2.heap.size := by have := HB2.out.z; omega
  have HE := hide (fun (W : World) (g : W2.grownBy W none) => r_bare (w := w) (W := W) (b := b) (s := refuseS t_bad used) hb rfl ((g.block _ hl1 (by simp)).trans HB2.out.res) (gr_trans HB2.out.gr g))
  have HF := hide (fun W => rfault_any t_bad (by decide) used W)
  have R1 := hide (fun (W : World) (g : W2.grownBy W none) => (g.block _ hl1 (by simp)).trans HB2.out.res)
  have HK := hide (fun W => rkey_any (mkB x) W)
  rw [mkB_list, hk] at HK
  simp only [mkB] at HK
  clear hk
  simp only [List.getElem_cons_zero, List.getElem_cons_succ, vb_decr, mkB] at a0 b0 c0 b1 c1 b2 c2
  clear B hb hW hl1 hn hc B2
  go_enter Tryd.func21, Tryd.ntmps21
  go_wp2_with (first
    | (refine wpList_store_row rfl 29 _ _ rfl (w.heap.size + 1) (fmC (formO vb_decr q []) none 0 none 0) rfl rfl _ _ (HB.out.nw _) (fmC_sizeO _ _ _ _ _) rfl (fmC_oneO _ _ _ _ _) ?_; rw [HB.out.st]; clear eW z0)
    | (go_at_call 38; refine (HK.out _).mono ?_; rintro e w9 ⟨rfl, rfl⟩)
    | (go_at_call 34; refine (rbad_any _).mono ?_; rintro e w7 ⟨rfl, rfl⟩)
    | (go_at_call 14; refine (HF.out _).mono ?_; rintro e w1 ⟨rfl, g1⟩; replace g1 := hide g1)
    | (refine wpList_store_row rfl 34 _ _ rfl w.heap.size (stC (refuseS t_bad used) none 0 none 0 none 0) rfl rfl _ _ (R1.out w1 g1.out) (step_size _ _ _ _ _ _ _) rfl (step_one _ _ _ _ _ _ _) ?_))
  exact step_ret rfl (HE.out w1 g1.out).1 rfl rfl (HE.out w1 g1.out).2
set_option maxRecDepth 100000 in
set_option maxHeartbeats 2000000 in
theorem rdelete_ok (hW : Ru w b 0 2 cap [vb_delete, x]) (hk : keyN x = true) (used : Int) : Calls Tryd.prog 21 #[.slice (some ⟨b, 0, none⟩) 2 cap, .bool q, .int .i64 used] w fun e w' => REnd b (oneS used ⟨8, mkB x, [], 0, 0, 0, 0, 0, false, false⟩ (formO vb_delete q [mkB x])) w e w' := by
  have hb := hW.lt
  have hc := hW.c
  have hn := hW.n
  obtain ⟨W0, W1, B⟩ := beg_of w (formO vb_delete q [])
  obtain ⟨W2, B2⟩ := B.two b cap x
  have a0 := (hW.on B.g0).at0 0 (by simp)
  have b0 := (hW.on B.gr).at0 0 (by simp)
  have c0 := (hW.on B2.gr).at0 0 (by simp)
  have b1 := (hW.on B.gr).at0 1 (by simp)
  have c1 := (hW.on B2.gr).at0 1 (by simp)
  have eW := B.eW
  have z0 := B.z0
  have HB := hide B
  have e2 := B2.eq
  have o2 := B2.old
  have y2 := B2.fz
  have HB2 := hide B2
  have s2 := fun W => slice_one (b := b) (n := 2) (cap := cap) (by omega) hc W
  have hl1 : w.heap.size < W2.heap.size := by have := HB2.out.z; omega
  obtain ⟨f0, f1, f2, f3, f4, f5, f6, f7, f8, f9⟩ := fmr_cells HB2.out.frm
  simp only [formO, List.length_nil, List.length_cons] at f0 f1 f2 f3 f4 f5 f6 f7 f8 f9
  have HE := hide (fun (W : World) (B : Nat) (g : W2.grownBy W none) (hl : W2.heap.size ≤ B) (hB : W.heap[B]? = some (.cells (cmC ⟨8, mkB x, [], 0, 0, 0, 0, 0, false, false⟩ none 0) 40 (0, 0))) => r_end (w := w) (W := W) (b := b) (s := oneS used ⟨8, mkB x, [], 0, 0, 0, 0, 0, false, false⟩ (formO vb_delete q [mkB x])) hb ((g.block _ hl1 (by simp)).trans HB2.out.res) (gr_trans HB2.out.gr g) fun W' hw hz => one_keys (W := W) (used := used) (q := q) (c := ⟨8, mkB x, [], 0, 0, 0, 0, 0, false, false⟩) hW (gr_trans HB2.out.gr g) rfl hB (by omega) hw hz)
  have HO := hide (fun W => rone_any used ⟨8, mkB x, [], 0, 0, 0, 0, 0, false, false⟩ none 0 (formO vb_delete q [mkB x]) none 0 (some ⟨b, 1, none⟩) (cap - 1) W)
  have R1 := hide (fun (W : World) (g : W2.grownBy W none) => (g.block _ hl1 (by simp)).trans HB2.out.res)
  have HK := hide (fun W => rkey_any (mkB x) W)
  rw [mkB_list, hk] at HK
  simp only [mkB] at HK
  clear hk
  simp only [List.getElem_cons_zero, List.getElem_cons_succ, vb_delete, mkB] at a0 b0 c0 b1 c1
  simp only [vb_delete, mkB] at f1
  clear B hb hW hl1 hn hc B2
  go_enter Tryd.func21, Tryd.ntmps21
  go_wp2_with (first
    | (refine wpList_store_row rfl 29 _ _ rfl (w.heap.size + 1) (fmC (formO vb_delete q []) none 0 none 0) rfl rfl _ _ (HB.out.nw _) (fmC_sizeO _ _ _ _ _) rfl (fmC_oneO _ _ _ _ _) ?_; rw [HB.out.st]; clear eW z0)
    | (go_at_call 38; refine (HK.out _).mono ?_; rintro e w9 ⟨rfl, rfl⟩))
  clear e2 o2 y2 s2
  refine region_dtail 6 (by kernel_rfl) (by simp) (by kernel_rfl) ?_
  simp only [List.take_succ_cons, List.take_zero, List.drop_succ_cons, List.drop_zero]
  repeat (quiet_step (fail))
  refine wpQuiet_nil ?_
  intro _ hw'
  obtain ⟨nq, rfl⟩ := hw'
  clear f0 f1 f2 f3 f4 f5 f6 f7 f8 f9 a0 b0 c0 b1 c1
  have G2 := hide (gr_drewM W2 nq)
  have Z2 : Hid ((W2.drewN nq).heap.size = W2.heap.size) := rfl
  generalize W2.drewN nq = w2 at *
  go_wp2_with (first
    | (go_at_call 36; refine (HO.out w2).mono ?_; rintro e w3 ⟨B, b1, b2, rfl, hB, g3⟩; have g4 := hide (gr_trans G2.out g3); have EE := hide (HE.out w3 B g4.out (by rw [← Z2.out]; exact b1) hB); clear b1 b2 hB g3 HE)
    | (refine wpList_store_row rfl 34 _ _ rfl w.heap.size (stC (oneS used ⟨8, mkB x, [], 0, 0, 0, 0, 0, false, false⟩ (formO vb_delete q [mkB x])) (some ⟨B, 0, none⟩) 1 none 0 (some ⟨b, 1, none⟩) (cap - 1)) rfl rfl _ _ (R1.out w3 g4.out) (step_size _ _ _ _ _ _ _) rfl (step_one _ _ _ _ _ _ _) ?_))
  exact step_ret rfl EE.out.1 rfl rfl EE.out.2
set_option maxRecDepth 100000 in
set_option maxHeartbeats 2000000 in
theorem rtouch_bad (hW : Ru w b 0 3 cap [vb_touch, x, y]) (hk : keyN x = true) (hx : y.length ≤ 5000) (hz : sgn y = none) (used : Int) : Calls Tryd.prog 21 #[.slice (some ⟨b, 0, none⟩) 3 cap, .bool q, .int .i64 used] w fun e w' => REnd b (refuseS t_bad used) w e w' := by
  have hb := hW.lt
  have hc := hW.c
  have hn := hW.n
  obtain ⟨W0, W1, B⟩ := beg_of w (formO vb_touch q [])
  obtain ⟨W2, B2⟩ := B.two b cap x
  have a0 := (hW.on B.g0).at0 0 (by simp)
  have b0 := (hW.on B.gr).at0 0 (by simp)
  have c0 := (hW.on B2.gr).at0 0 (by simp)
  have b1 := (hW.on B.gr).at0 1 (by simp)
  have c1 := (hW.on B2.gr).at0 1 (by simp)
  have b2 := (hW.on B.gr).at0 2 (by simp)
  have c2 := (hW.on B2.gr).at0 2 (by simp)
  have eW := B.eW
  have z0 := B.z0
  have HB := hide B
  have e2 := B2.eq
  have o2 := B2.old
  have y2 := B2.fz
  have HB2 := hide B2
  have s2 := fun W => slice_one (b := b) (n := 3) (cap := cap) (by omega) hc W
  have hl1 : w.heap.size < W2.heap.size := by have := HB2.out.z; omega
  have HE := hide (fun (W : World) (g : W2.grownBy W none) => r_bare (w := w) (W := W) (b := b) (s := refuseS t_bad used) hb rfl ((g.block _ hl1 (by simp)).trans HB2.out.res) (gr_trans HB2.out.gr g))
  have HF := hide (fun W => rfault_any t_bad (by decide) used W)
  have R1 := hide (fun (W : World) (g : W2.grownBy W none) => (g.block _ hl1 (by simp)).trans HB2.out.res)
  have HK := hide (fun W => rkey_any (mkB x) W)
  rw [mkB_list, hk] at HK
  simp only [mkB] at HK
  clear hk
  have HS := hide (fun W => rsgn_any y (by omega) W)
  rw [show sgnV y = 0 by rw [sgnV, hz]; rfl, show sgnB y = false by rw [sgnB, hz]; rfl] at HS
  simp only [mkB] at HS
  clear hz
  simp only [List.getElem_cons_zero, List.getElem_cons_succ, vb_touch, mkB] at a0 b0 c0 b1 c1 b2 c2
  clear B hb hW hl1 hn hc B2
  go_enter Tryd.func21, Tryd.ntmps21
  go_wp2_with (first
    | (refine wpList_store_row rfl 29 _ _ rfl (w.heap.size + 1) (fmC (formO vb_touch q []) none 0 none 0) rfl rfl _ _ (HB.out.nw _) (fmC_sizeO _ _ _ _ _) rfl (fmC_oneO _ _ _ _ _) ?_; rw [HB.out.st]; clear eW z0)
    | (go_at_call 38; refine (HK.out _).mono ?_; rintro e w9 ⟨rfl, rfl⟩)
    | (go_at_call 35; refine (HS.out _).mono ?_; rintro e w8 ⟨rfl, rfl⟩)
    | (go_at_call 34; refine (rbad_any _).mono ?_; rintro e w7 ⟨rfl, rfl⟩)
    | (go_at_call 14; refine (HF.out _).mono ?_; rintro e w1 ⟨rfl, g1⟩; replace g1 := hide g1)
    | (refine wpList_store_row rfl 34 _ _ rfl w.heap.size (stC (refuseS t_bad used) none 0 none 0 none 0) rfl rfl _ _ (R1.out w1 g1.out) (step_size _ _ _ _ _ _ _) rfl (step_one _ _ _ _ _ _ _) ?_))
  exact step_ret rfl (HE.out w1 g1.out).1 rfl rfl (HE.out w1 g1.out).2
set_option maxRecDepth 100000 in
set_option maxHeartbeats 2000000 in
theorem rtouch_ok (hW : Ru w b 0 3 cap [vb_touch, x, y]) (hk : keyN x = true) (hx : y.length ≤ 5000) (hz : sgn y = some z) (used : Int) : Calls Tryd.prog 21 #[.slice (some ⟨b, 0, none⟩) 3 cap, .bool q, .int .i64 used] w fun e w' => REnd b (oneS used ⟨2, mkB x, [], 0, z, 0, 0, 0, false, false⟩ (formO vb_touch q [mkB x])) w e w' := by
  have hb := hW.lt
  have hc := hW.c
  have hn := hW.n
  obtain ⟨W0, W1, B⟩ := beg_of w (formO vb_touch q [])
  obtain ⟨W2, B2⟩ := B.two b cap x
  have a0 := (hW.on B.g0).at0 0 (by simp)
  have b0 := (hW.on B.gr).at0 0 (by simp)
  have c0 := (hW.on B2.gr).at0 0 (by simp)
  have b1 := (hW.on B.gr).at0 1 (by simp)
  have c1 := (hW.on B2.gr).at0 1 (by simp)
  have b2 := (hW.on B.gr).at0 2 (by simp)
  have c2 := (hW.on B2.gr).at0 2 (by simp)
  have eW := B.eW
  have z0 := B.z0
  have HB := hide B
  have e2 := B2.eq
  have o2 := B2.old
  have y2 := B2.fz
  have HB2 := hide B2
  have s2 := fun W => slice_one (b := b) (n := 3) (cap := cap) (by omega) hc W
  have hl1 : w.heap.size < W2.heap.size := by have := HB2.out.z; omega
  obtain ⟨f0, f1, f2, f3, f4, f5, f6, f7, f8, f9⟩ := fmr_cells HB2.out.frm
  simp only [formO, List.length_nil, List.length_cons] at f0 f1 f2 f3 f4 f5 f6 f7 f8 f9
  have HE := hide (fun (W : World) (B : Nat) (g : W2.grownBy W none) (hl : W2.heap.size ≤ B) (hB : W.heap[B]? = some (.cells (cmC ⟨2, mkB x, [], 0, z, 0, 0, 0, false, false⟩ none 0) 40 (0, 0))) => r_end (w := w) (W := W) (b := b) (s := oneS used ⟨2, mkB x, [], 0, z, 0, 0, 0, false, false⟩ (formO vb_touch q [mkB x])) hb ((g.block _ hl1 (by simp)).trans HB2.out.res) (gr_trans HB2.out.gr g) fun W' hw hz => one_keys (W := W) (used := used) (q := q) (c := ⟨2, mkB x, [], 0, z, 0, 0, 0, false, false⟩) hW (gr_trans HB2.out.gr g) rfl hB (by omega) hw hz)
  have HO := hide (fun W => rone_any used ⟨2, mkB x, [], 0, z, 0, 0, 0, false, false⟩ none 0 (formO vb_touch q [mkB x]) none 0 (some ⟨b, 1, none⟩) (cap - 1) W)
  have R1 := hide (fun (W : World) (g : W2.grownBy W none) => (g.block _ hl1 (by simp)).trans HB2.out.res)
  have HK := hide (fun W => rkey_any (mkB x) W)
  rw [mkB_list, hk] at HK
  simp only [mkB] at HK
  clear hk
  have HS := hide (fun W => rsgn_any y (by omega) W)
  rw [show sgnV y = z by rw [sgnV, hz]; rfl, show sgnB y = true by rw [sgnB, hz]; rfl] at HS
  simp only [mkB] at HS
  clear hz
  simp only [List.getElem_cons_zero, List.getElem_cons_succ, vb_touch, mkB] at a0 b0 c0 b1 c1 b2 c2
  simp only [vb_touch, mkB] at f1
  clear B hb hW hl1 hn hc B2
  go_enter Tryd.func21, Tryd.ntmps21
  go_wp2_with (first
    | (refine wpList_store_row rfl 29 _ _ rfl (w.heap.size + 1) (fmC (formO vb_touch q []) none 0 none 0) rfl rfl _ _ (HB.out.nw _) (fmC_sizeO _ _ _ _ _) rfl (fmC_oneO _ _ _ _ _) ?_; rw [HB.out.st]; clear eW z0)
    | (go_at_call 38; refine (HK.out _).mono ?_; rintro e w9 ⟨rfl, rfl⟩)
    | (go_at_call 35; refine (HS.out _).mono ?_; rintro e w8 ⟨rfl, rfl⟩))
  clear e2 o2 y2 s2
  refine region_dtail 7 (by kernel_rfl) (by simp) (by kernel_rfl) ?_
  simp only [List.take_succ_cons, List.take_zero, List.drop_succ_cons, List.drop_zero]
  repeat (quiet_step (fail))
  refine wpQuiet_nil ?_
  intro _ hw'
  obtain ⟨nq, rfl⟩ := hw'
  clear f0 f1 f2 f3 f4 f5 f6 f7 f8 f9 a0 b0 c0 b1 c1 b2 c2
  have G2 := hide (gr_drewM W2 nq)
  have Z2 : Hid ((W2.drewN nq).heap.size = W2.heap.size) := rfl
  generalize W2.drewN nq = w2 at *
  go_wp2_with (first
    | (go_at_call 36; refine (HO.out w2).mono ?_; rintro e w3 ⟨B, b1, b2, rfl, hB, g3⟩; have g4 := hide (gr_trans G2.out g3); have EE := hide (HE.out w3 B g4.out (by rw [← Z2.out]; exact b1) hB); clear b1 b2 hB g3 HE)
    | (refine wpList_store_row rfl 34 _ _ rfl w.heap.size (stC (oneS used ⟨2, mkB x, [], 0, z, 0, 0, 0, false, false⟩ (formO vb_touch q [mkB x])) (some ⟨B, 0, none⟩) 1 none 0 (some ⟨b, 1, none⟩) (cap - 1)) rfl rfl _ _ (R1.out w3 g4.out) (step_size _ _ _ _ _ _ _) rfl (step_one _ _ _ _ _ _ _) ?_))
  exact step_ret rfl EE.out.1 rfl rfl EE.out.2
set_option maxRecDepth 100000 in
set_option maxHeartbeats 2000000 in
theorem rincr_bad (hW : Ru w b 0 3 cap [vb_incr, x, y]) (hk : keyN x = true) (hx : y.length ≤ 5000) (hu : dec y = none) (used : Int) : Calls Tryd.prog 21 #[.slice (some ⟨b, 0, none⟩) 3 cap, .bool q, .int .i64 used] w fun e w' => REnd b (refuseS t_delta used) w e w' := by
  have hb := hW.lt
  have hc := hW.c
  have hn := hW.n
  obtain ⟨W0, W1, B⟩ := beg_of w (formO vb_incr q [])
  obtain ⟨W2, B2⟩ := B.two b cap x
  have a0 := (hW.on B.g0).at0 0 (by simp)
  have b0 := (hW.on B.gr).at0 0 (by simp)
  have c0 := (hW.on B2.gr).at0 0 (by simp)
  have b1 := (hW.on B.gr).at0 1 (by simp)
  have c1 := (hW.on B2.gr).at0 1 (by simp)
  have b2 := (hW.on B.gr).at0 2 (by simp)
  have c2 := (hW.on B2.gr).at0 2 (by simp)
  have eW := B.eW
  have z0 := B.z0
  have HB := hide B
  have e2 := B2.eq
  have o2 := B2.old
  have y2 := B2.fz
  have HB2 := hide B2
  have s2 := fun W => slice_one (b := b) (n := 3) (cap := cap) (by omega) hc W
  have hl1 : w.heap.size < W2.heap.size := by have := HB2.out.z; omega
  have HE := hide (fun (W : World) (g : W2.grownBy W none) => r_bare (w := w) (W := W) (b := b) (s := refuseS t_delta used) hb rfl ((g.block _ hl1 (by simp)).trans HB2.out.res) (gr_trans HB2.out.gr g))
  have HF := hide (fun W => rfault_any t_delta (by decide) used W)
  simp only [t_delta, mkB] at HF
  have R1 := hide (fun (W : World) (g : W2.grownBy W none) => (g.block _ hl1 (by simp)).trans HB2.out.res)
  have HK := hide (fun W => rkey_any (mkB x) W)
  rw [mkB_list, hk] at HK
  simp only [mkB] at HK
  clear hk
  have HD := hide (fun W => rdec_any y (by omega) W)
  rw [show decV y = 0 by rw [decV, hu]; rfl, show decB y = false by rw [decB, hu]; rfl] at HD
  simp only [mkB] at HD
  clear hu
  simp only [List.getElem_cons_zero, List.getElem_cons_succ, vb_incr, mkB] at a0 b0 c0 b1 c1 b2 c2
  clear B hb hW hl1 hn hc B2
  go_enter Tryd.func21, Tryd.ntmps21
  go_wp2_with (first
    | (refine wpList_store_row rfl 29 _ _ rfl (w.heap.size + 1) (fmC (formO vb_incr q []) none 0 none 0) rfl rfl _ _ (HB.out.nw _) (fmC_sizeO _ _ _ _ _) rfl (fmC_oneO _ _ _ _ _) ?_; rw [HB.out.st]; clear eW z0)
    | (go_at_call 38; refine (HK.out _).mono ?_; rintro e w9 ⟨rfl, rfl⟩)
    | (go_at_call 37; refine (HD.out _).mono ?_; rintro e w8 ⟨rfl, rfl⟩)
    | (go_at_call 14; refine (HF.out _).mono ?_; rintro e w1 ⟨rfl, g1⟩; replace g1 := hide g1)
    | (refine wpList_store_row rfl 34 _ _ rfl w.heap.size (stC (refuseS t_delta used) none 0 none 0 none 0) rfl rfl _ _ (R1.out w1 g1.out) (step_size _ _ _ _ _ _ _) rfl (step_one _ _ _ _ _ _ _) ?_))
  exact step_ret rfl (HE.out w1 g1.out).1 rfl rfl (HE.out w1 g1.out).2
set_option maxRecDepth 100000 in
set_option maxHeartbeats 2000000 in
theorem rincr_ok (hW : Ru w b 0 3 cap [vb_incr, x, y]) (hk : keyN x = true) (hx : y.length ≤ 5000) (hu : dec y = some u) (used : Int) : Calls Tryd.prog 21 #[.slice (some ⟨b, 0, none⟩) 3 cap, .bool q, .int .i64 used] w fun e w' => REnd b (oneS used ⟨10, mkB x, [], 0, 0, 0, (u : Int), 0, false, false⟩ (formO vb_incr q [mkB x])) w e w' := by
  have hb := hW.lt
  have hc := hW.c
  have hn := hW.n
  obtain ⟨W0, W1, B⟩ := beg_of w (formO vb_incr q [])
  obtain ⟨W2, B2⟩ := B.two b cap x
  have a0 := (hW.on B.g0).at0 0 (by simp)
  have b0 := (hW.on B.gr).at0 0 (by simp)
  have c0 := (hW.on B2.gr).at0 0 (by simp)
  have b1 := (hW.on B.gr).at0 1 (by simp)
  have c1 := (hW.on B2.gr).at0 1 (by simp)
  have b2 := (hW.on B.gr).at0 2 (by simp)
  have c2 := (hW.on B2.gr).at0 2 (by simp)
  have eW := B.eW
  have z0 := B.z0
  have HB := hide B
  have e2 := B2.eq
  have o2 := B2.old
  have y2 := B2.fz
  have HB2 := hide B2
  have s2 := fun W => slice_one (b := b) (n := 3) (cap := cap) (by omega) hc W
  have hl1 : w.heap.size < W2.heap.size := by have := HB2.out.z; omega
  obtain ⟨V3, hV3⟩ : ∃ V3, V3 = W2.alloc (.cells (cmC ⟨10, mkB x, [], 0, 0, 0, (u : Int), 0, false, false⟩ none 0) 40) := ⟨_, rfl⟩
  have gV : W2.grownBy V3 none := by rw [hV3]; exact World.grownBy_alloc _ _ _
  have nV : V3.heap[w.heap.size + 2]? = some (.cells (cmC ⟨10, mkB x, [], 0, 0, 0, (u : Int), 0, false, false⟩ none 0) 40 (0, 0)) := by rw [hV3, ← HB2.out.z]; exact World.alloc_heap_new _ _
  have g3 := gV
  have n3 := nV
  have SV : Hid (∀ old, (W2.alloc (.cells old 40)).setRow (w.heap.size + 2) (cmC ⟨10, mkB x, [], 0, 0, 0, (u : Int), 0, false, false⟩ none 0) = V3) := fun old => by rw [hV3, ← HB2.out.z]; exact setRow_alloc _ _ _ _
  have NV : Hid (∀ old, (W2.alloc (.cells old 40)).heap[w.heap.size + 2]? = some (.cells old 40 (0, 0))) := fun old => by rw [← HB2.out.z]; exact World.alloc_heap_new _ _
  have z2 := HB2.out.z
  have d0 := (hW.on (gr_trans HB2.out.gr gV)).at0 0 (by simp)
  have f3 := (g3.block _ (by have := HB2.out.z; omega) (by simp)).trans HB2.out.frm
  have rr := (g3.block _ hl1 (by simp)).trans HB2.out.res
  have gw := gr_trans HB2.out.gr g3
  obtain ⟨r0, r1, r2, r3, r4, r5, r6, r7, r8, r9⟩ := cm_cells n3
  obtain ⟨f0, f1, f2, f3, f4, f5, f6, f7, f8, f9⟩ := fmr_cells f3
  have hl3 : w.heap.size < V3.heap.size := by have := g3.size; omega
  simp only [formO, List.length_nil, List.length_cons] at f0 f1 f2 f3 f4 f5 f6 f7 f8 f9
  simp only [List.length_nil] at r0 r1 r2 r3 r4 r5 r6 r7 r8 r9
  have HE := hide (fun (W : World) (B : Nat) (g : V3.grownBy W none) (hl : V3.heap.size ≤ B) (hB : W.heap[B]? = some (.cells (cmC ⟨10, mkB x, [], 0, 0, 0, (u : Int), 0, false, false⟩ none 0) 40 (0, 0))) => r_end (w := w) (W := W) (b := b) (s := oneS used ⟨10, mkB x, [], 0, 0, 0, (u : Int), 0, false, false⟩ (formO vb_incr q [mkB x])) hb ((g.block _ hl3 (by simp)).trans rr) (gr_trans gw g) fun W' hw hz => one_keys (W := W) (used := used) (q := q) (c := ⟨10, mkB x, [], 0, 0, 0, (u : Int), 0, false, false⟩) hW (gr_trans gw g) rfl hB (by omega) hw hz)
  have HO := hide (fun W => rone_any used ⟨10, mkB x, [], 0, 0, 0, (u : Int), 0, false, false⟩ none 0 (formO vb_incr q [mkB x]) none 0 (some ⟨b, 1, none⟩) (cap - 1) W)
  have R1 := hide (fun (W : World) (g : V3.grownBy W none) => (g.block _ hl3 (by simp)).trans rr)
  have HK := hide (fun W => rkey_any (mkB x) W)
  rw [mkB_list, hk] at HK
  simp only [mkB] at HK
  clear hk
  have HD := hide (fun W => rdec_any y (by omega) W)
  rw [show decV y = (u : Int) by rw [decV, hu]; rfl, show decB y = true by rw [decB, hu]; rfl] at HD
  simp only [mkB] at HD
  clear hu
  simp only [List.getElem_cons_zero, List.getElem_cons_succ, vb_incr, mkB] at a0 b0 c0 b1 c1 b2 c2 d0
  simp only [vb_incr, mkB] at f1
  simp only [mkB] at r1
  clear B hb hW hl1 hn hc B2 nV gV n3 g3 rr gw hl3 hV3
  go_enter Tryd.func21, Tryd.ntmps21
  go_wp2_with (first
    | (refine wpList_store_row rfl 29 _ _ rfl (w.heap.size + 1) (fmC (formO vb_incr q []) none 0 none 0) rfl rfl _ _ (HB.out.nw _) (fmC_sizeO _ _ _ _ _) rfl (fmC_oneO _ _ _ _ _) ?_; rw [HB.out.st]; clear eW z0)
    | (go_at_call 38; refine (HK.out _).mono ?_; rintro e w9 ⟨rfl, rfl⟩)
    | (go_at_call 37; refine (HD.out _).mono ?_; rintro e w8 ⟨rfl, rfl⟩)
    | (refine wpList_store_row rfl 40 _ _ rfl (w.heap.size + 2) (cmC ⟨10, mkB x, [], 0, 0, 0, (u : Int), 0, false, false⟩ none 0) rfl rfl _ _ (NV.out _) (cmd_size _ _ _) rfl (cmd_one _ _ _) ?_; rw [SV.out]; clear z2)
    | (go_at_call 36; go_loud (refine (HO.out V3).mono ?_); rintro e w3 ⟨B, b1, b2, rfl, hB, g3⟩; have g4 := hide g3; have EE := hide (HE.out w3 B g3 b1 hB); clear b1 b2 hB g3 HE)
    | (refine wpList_store_row rfl 34 _ _ rfl w.heap.size (stC (oneS used ⟨10, mkB x, [], 0, 0, 0, (u : Int), 0, false, false⟩ (formO vb_incr q [mkB x])) (some ⟨B, 0, none⟩) 1 none 0 (some ⟨b, 1, none⟩) (cap - 1)) rfl rfl _ _ (R1.out w3 g4.out) (step_size _ _ _ _ _ _ _) rfl (step_one _ _ _ _ _ _ _) ?_))
  exact step_ret rfl EE.out.1 rfl rfl EE.out.2
set_option maxRecDepth 100000 in
set_option maxHeartbeats 2000000 in
theorem rdecr_bad (hW : Ru w b 0 3 cap [vb_decr, x, y]) (hk : keyN x = true) (hx : y.length ≤ 5000) (hu : dec y = none) (used : Int) : Calls Tryd.prog 21 #[.slice (some ⟨b, 0, none⟩) 3 cap, .bool q, .int .i64 used] w fun e w' => REnd b (refuseS t_delta used) w e w' := by
  have hb := hW.lt
  have hc := hW.c
  have hn := hW.n
  obtain ⟨W0, W1, B⟩ := beg_of w (formO vb_decr q [])
  obtain ⟨W2, B2⟩ := B.two b cap x
  have a0 := (hW.on B.g0).at0 0 (by simp)
  have b0 := (hW.on B.gr).at0 0 (by simp)
  have c0 := (hW.on B2.gr).at0 0 (by simp)
  have b1 := (hW.on B.gr).at0 1 (by simp)
  have c1 := (hW.on B2.gr).at0 1 (by simp)
  have b2 := (hW.on B.gr).at0 2 (by simp)
  have c2 := (hW.on B2.gr).at0 2 (by simp)
  have eW := B.eW
  have z0 := B.z0
  have HB := hide B
  have e2 := B2.eq
  have o2 := B2.old
  have y2 := B2.fz
  have HB2 := hide B2
  have s2 := fun W => slice_one (b := b) (n := 3) (cap := cap) (by omega) hc W
  have hl1 : w.heap.size < W2.heap.size := by have := HB2.out.z; omega
  have HE := hide (fun (W : World) (g : W2.grownBy W none) => r_bare (w := w) (W := W) (b := b) (s := refuseS t_delta used) hb rfl ((g.block _ hl1 (by simp)).trans HB2.out.res) (gr_trans HB2.out.gr g))
  have HF := hide (fun W => rfault_any t_delta (by decide) used W)
  simp only [t_delta, mkB] at HF
  have R1 := hide (fun (W : World) (g : W2.grownBy W none) => (g.block _ hl1 (by simp)).trans HB2.out.res)
  have HK := hide (fun W => rkey_any (mkB x) W)
  rw [mkB_list, hk] at HK
  simp only [mkB] at HK
  clear hk
  have HD := hide (fun W => rdec_any y (by omega) W)
  rw [show decV y = 0 by rw [decV, hu]; rfl, show decB y = false by rw [decB, hu]; rfl] at HD
  simp only [mkB] at HD
  clear hu
  simp only [List.getElem_cons_zero, List.getElem_cons_succ, vb_decr, mkB] at a0 b0 c0 b1 c1 b2 c2
  clear B hb hW hl1 hn hc B2
  go_enter Tryd.func21, Tryd.ntmps21
  go_wp2_with (first
    | (refine wpList_store_row rfl 29 _ _ rfl (w.heap.size + 1) (fmC (formO vb_decr q []) none 0 none 0) rfl rfl _ _ (HB.out.nw _) (fmC_sizeO _ _ _ _ _) rfl (fmC_oneO _ _ _ _ _) ?_; rw [HB.out.st]; clear eW z0)
    | (go_at_call 38; refine (HK.out _).mono ?_; rintro e w9 ⟨rfl, rfl⟩)
    | (go_at_call 37; refine (HD.out _).mono ?_; rintro e w8 ⟨rfl, rfl⟩)
    | (go_at_call 14; refine (HF.out _).mono ?_; rintro e w1 ⟨rfl, g1⟩; replace g1 := hide g1)
    | (refine wpList_store_row rfl 34 _ _ rfl w.heap.size (stC (refuseS t_delta used) none 0 none 0 none 0) rfl rfl _ _ (R1.out w1 g1.out) (step_size _ _ _ _ _ _ _) rfl (step_one _ _ _ _ _ _ _) ?_))
  exact step_ret rfl (HE.out w1 g1.out).1 rfl rfl (HE.out w1 g1.out).2
set_option maxRecDepth 100000 in
set_option maxHeartbeats 2000000 in
theorem rdecr_ok (hW : Ru w b 0 3 cap [vb_decr, x, y]) (hk : keyN x = true) (hx : y.length ≤ 5000) (hu : dec y = some u) (used : Int) : Calls Tryd.prog 21 #[.slice (some ⟨b, 0, none⟩) 3 cap, .bool q, .int .i64 used] w fun e w' => REnd b (oneS used ⟨11, mkB x, [], 0, 0, 0, (u : Int), 0, false, false⟩ (formO vb_decr q [mkB x])) w e w' := by
  have hb := hW.lt
  have hc := hW.c
  have hn := hW.n
  obtain ⟨W0, W1, B⟩ := beg_of w (formO vb_decr q [])
  obtain ⟨W2, B2⟩ := B.two b cap x
  have a0 := (hW.on B.g0).at0 0 (by simp)
  have b0 := (hW.on B.gr).at0 0 (by simp)
  have c0 := (hW.on B2.gr).at0 0 (by simp)
  have b1 := (hW.on B.gr).at0 1 (by simp)
  have c1 := (hW.on B2.gr).at0 1 (by simp)
  have b2 := (hW.on B.gr).at0 2 (by simp)
  have c2 := (hW.on B2.gr).at0 2 (by simp)
  have eW := B.eW
  have z0 := B.z0
  have HB := hide B
  have e2 := B2.eq
  have o2 := B2.old
  have y2 := B2.fz
  have HB2 := hide B2
  have s2 := fun W => slice_one (b := b) (n := 3) (cap := cap) (by omega) hc W
  have hl1 : w.heap.size < W2.heap.size := by have := HB2.out.z; omega
  obtain ⟨V3, hV3⟩ : ∃ V3, V3 = W2.alloc (.cells (cmC ⟨10, mkB x, [], 0, 0, 0, (u : Int), 0, false, false⟩ none 0) 40) := ⟨_, rfl⟩
  have gV : W2.grownBy V3 none := by rw [hV3]; exact World.grownBy_alloc _ _ _
  have nV : V3.heap[w.heap.size + 2]? = some (.cells (cmC ⟨10, mkB x, [], 0, 0, 0, (u : Int), 0, false, false⟩ none 0) 40 (0, 0)) := by rw [hV3, ← HB2.out.z]; exact World.alloc_heap_new _ _
  obtain ⟨W3, hW3⟩ : ∃ W3, W3 = V3.setCell ⟨w.heap.size + 2, 0, none⟩ (.int .i64 11) := ⟨_, rfl⟩
  have g3 : W2.grownBy W3 none := by rw [hW3]; exact grPut gV (by have := HB2.out.z; omega) _
  have n3 : W3.heap[w.heap.size + 2]? = some (.cells (cmC ⟨11, mkB x, [], 0, 0, 0, (u : Int), 0, false, false⟩ none 0) 40 (0, 0)) := by rw [hW3]; exact heap_setCell_same V3 _ 0 _ _ (.int .i64 11) nV
  have e3 : V3.setCell ⟨w.heap.size + 2, 0, none⟩ (.int .i64 11) = W3 := hW3.symm
  have y3 : V3.frozen? ⟨w.heap.size + 2, 0, none⟩ = false := frozen_of_row _ _ _ _ _ nV
  have p3 := (cm_cells nV).1
  have SV : Hid (∀ old, (W2.alloc (.cells old 40)).setRow (w.heap.size + 2) (cmC ⟨10, mkB x, [], 0, 0, 0, (u : Int), 0, false, false⟩ none 0) = V3) := fun old => by rw [hV3, ← HB2.out.z]; exact setRow_alloc _ _ _ _
  have NV : Hid (∀ old, (W2.alloc (.cells old 40)).heap[w.heap.size + 2]? = some (.cells old 40 (0, 0))) := fun old => by rw [← HB2.out.z]; exact World.alloc_heap_new _ _
  have z2 := HB2.out.z
  have d0 := (hW.on (gr_trans HB2.out.gr gV)).at0 0 (by simp)
  have d1 := (hW.on (gr_trans HB2.out.gr g3)).at0 0 (by simp)
  have f3 := (g3.block _ (by have := HB2.out.z; omega) (by simp)).trans HB2.out.frm
  have rr := (g3.block _ hl1 (by simp)).trans HB2.out.res
  have gw := gr_trans HB2.out.gr g3
  obtain ⟨r0, r1, r2, r3, r4, r5, r6, r7, r8, r9⟩ := cm_cells n3
  obtain ⟨f0, f1, f2, f3, f4, f5, f6, f7, f8, f9⟩ := fmr_cells f3
  have hl3 : w.heap.size < W3.heap.size := by have := g3.size; omega
  simp only [formO, List.length_nil, List.length_cons] at f0 f1 f2 f3 f4 f5 f6 f7 f8 f9
  simp only [List.length_nil] at r0 r1 r2 r3 r4 r5 r6 r7 r8 r9
  have HE := hide (fun (W : World) (B : Nat) (g : W3.grownBy W none) (hl : W3.heap.size ≤ B) (hB : W.heap[B]? = some (.cells (cmC ⟨11, mkB x, [], 0, 0, 0, (u : Int), 0, false, false⟩ none 0) 40 (0, 0))) => r_end (w := w) (W := W) (b := b) (s := oneS used ⟨11, mkB x, [], 0, 0, 0, (u : Int), 0, false, false⟩ (formO vb_decr q [mkB x])) hb ((g.block _ hl3 (by simp)).trans rr) (gr_trans gw g) fun W' hw hz => one_keys (W := W) (used := used) (q := q) (c := ⟨11, mkB x, [], 0, 0, 0, (u : Int), 0, false, false⟩) hW (gr_trans gw g) rfl hB (by omega) hw hz)
  have HO := hide (fun W => rone_any used ⟨11, mkB x, [], 0, 0, 0, (u : Int), 0, false, false⟩ none 0 (formO vb_decr q [mkB x]) none 0 (some ⟨b, 1, none⟩) (cap - 1) W)
  have R1 := hide (fun (W : World) (g : W3.grownBy W none) => (g.block _ hl3 (by simp)).trans rr)
  have HK := hide (fun W => rkey_any (mkB x) W)
  rw [mkB_list, hk] at HK
  simp only [mkB] at HK
  clear hk
  have HD := hide (fun W => rdec_any y (by omega) W)
  rw [show decV y = (u : Int) by rw [decV, hu]; rfl, show decB y = true by rw [decB, hu]; rfl] at HD
  simp only [mkB] at HD
  clear hu
  simp only [List.getElem_cons_zero, List.getElem_cons_succ, vb_decr, mkB] at a0 b0 c0 b1 c1 b2 c2 d0 d1
  simp only [vb_decr, mkB] at f1
  simp only [mkB] at r1
  clear B hb hW hl1 hn hc B2 nV gV n3 g3 rr gw hl3 hV3 hW3
  go_enter Tryd.func21, Tryd.ntmps21
  go_wp2_with (first
    | (refine wpList_store_row rfl 29 _ _ rfl (w.heap.size + 1) (fmC (formO vb_decr q []) none 0 none 0) rfl rfl _ _ (HB.out.nw _) (fmC_sizeO _ _ _ _ _) rfl (fmC_oneO _ _ _ _ _) ?_; rw [HB.out.st]; clear eW z0)
    | (go_at_call 38; refine (HK.out _).mono ?_; rintro e w9 ⟨rfl, rfl⟩)
    | (go_at_call 37; refine (HD.out _).mono ?_; rintro e w8 ⟨rfl, rfl⟩)
    | (refine wpList_store_row rfl 40 _ _ rfl (w.heap.size + 2) (cmC ⟨10, mkB x, [], 0, 0, 0, (u : Int), 0, false, false⟩ none 0) rfl rfl _ _ (NV.out _) (cmd_size _ _ _) rfl (cmd_one _ _ _) ?_; rw [SV.out]; clear z2)
    | (go_at_call 36; go_loud (refine (HO.out W3).mono ?_); rintro e w3 ⟨B, b1, b2, rfl, hB, g3⟩; have g4 := hide g3; have EE := hide (HE.out w3 B g3 b1 hB); clear b1 b2 hB g3 HE)
    | (refine wpList_store_row rfl 34 _ _ rfl w.heap.size (stC (oneS used ⟨11, mkB x, [], 0, 0, 0, (u : Int), 0, false, false⟩ (formO vb_decr q [mkB x])) (some ⟨B, 0, none⟩) 1 none 0 (some ⟨b, 1, none⟩) (cap - 1)) rfl rfl _ _ (R1.out w3 g4.out) (step_size _ _ _ _ _ _ _) rfl (step_one _ _ _ _ _ _ _) ?_))
  exact step_ret rfl EE.out.1 rfl rfl EE.out.2
end
end Go.Proofs.YtfcmnkhfmofioaaDoor
