/- The document's own text dialect: get, gets, gat and gats. Conditions: the words are not too long. -/
import Derived.Test.YtfcmnkhfmofioaaDoorRef14I
namespace Go.Proofs.YtfcmnkhfmofioaaDoor
set_option linter.unusedVariables false
set_option linter.unusedSimpArgs false
open Go.RowKit

section
variable {w : World} {b n cap : Nat} {x : List UInt8} {ws ks : List (List UInt8)} {z : Int}
set_option maxRecDepth 100000 in
set_option maxHeartbeats 4000000 in
theorem rg_get_few (hW : Ru w b 0 n cap (vb_get :: ws)) (hne : n ≤ 1) (used : Int) : Calls Tryd.prog 16 #[.slice (some ⟨b, 0, none⟩) n cap, .int .i64 used] w fun e w' => REnd b (refuseS t_ERROR used) w e w' := by
  have hb := hW.lt
  have hn := hW.n
  have hcp := hW.c
  have hm := hW.m
  unfold maxLen at hm
  simp only [List.length_cons] at hn
  obtain ⟨W0, W1, B⟩ := begG_of w (cmdG 0 0)
  have a0 := (hW.on B.g0).at0 0 (by simp)
  have b0 := (hW.on B.gr).at0 0 (by simp)
  have eW := B.eW
  have z0 := B.z0
  have HB := hide B
  have hl1 : w.heap.size < W1.heap.size := by have := HB.out.z; omega
  simp only [List.getElem_cons_zero, List.getElem_cons_succ, vb_get, mkB] at a0 b0
  have hni : (n : Int) ≤ 1 := by omega
  have hn0 : ¬ (n : Int) ≤ 0 := by omega
  have HE := hide (fun (W : World) (g : W1.grownBy W none) => r_bare (w := w) (W := W) (b := b) (s := refuseS t_ERROR used) hb rfl ((g.block _ hl1 (by simp)).trans HB.out.res) (gr_trans HB.out.gr g))
  have R1 := hide (fun (W : World) (g : W1.grownBy W none) => (g.block _ hl1 (by simp)).trans HB.out.res)
  have HF := hide (fun W => rfault_any t_ERROR (by decide) used W)
  simp only [t_ERROR, mkB] at HF
  clear B hb hW hl1 hn hcp hm hne
  go_enter Tryd.func16, Tryd.ntmps16
  go_wp2_with (first
    | (refine wpList_store_row rfl 40 _ _ rfl (w.heap.size + 1) (cmC (cmdG 0 0) none 0) rfl rfl _ _ (HB.out.nw _) (cmd_size _ _ _) rfl (cmd_one _ _ _) ?_; rw [HB.out.st]; clear eW z0)
    | (go_at_call 14; refine (HF.out _).mono ?_; rintro e w1 ⟨rfl, g1⟩; replace g1 := hide g1)
    | (refine wpList_store_row rfl 34 _ _ rfl w.heap.size (stC (refuseS t_ERROR used) none 0 none 0 none 0) rfl rfl _ _ (R1.out w1 g1.out) (step_size _ _ _ _ _ _ _) rfl (step_one _ _ _ _ _ _ _) ?_))
  exact step_ret rfl (HE.out w1 g1.out).1 rfl rfl (HE.out w1 g1.out).2
set_option maxRecDepth 100000 in
set_option maxHeartbeats 4000000 in
theorem rg_get_keys (hW : Ru w b 0 n cap (vb_get :: ks)) (hks : ks ≠ []) (hk : rkeysN ks = false) (used : Int) : Calls Tryd.prog 16 #[.slice (some ⟨b, 0, none⟩) n cap, .int .i64 used] w fun e w' => REnd b (refuseS t_bad used) w e w' := by
  have hb := hW.lt
  have hn := hW.n
  have hcp := hW.c
  have hm := hW.m
  unfold maxLen at hm
  have hkp : 0 < ks.length := List.length_pos_iff.2 hks
  simp only [List.length_cons] at hn
  obtain ⟨W0, W1, B⟩ := begG_of w (cmdG 0 0)
  have a0 := (hW.on B.g0).at0 0 (by simp)
  have b0 := (hW.on B.gr).at0 0 (by simp)
  have eW := B.eW
  have z0 := B.z0
  have HB := hide B
  have hl1 : w.heap.size < W1.heap.size := by have := HB.out.z; omega
  simp only [List.getElem_cons_zero, List.getElem_cons_succ, vb_get, mkB] at a0 b0
  have hni : ¬ (n : Int) ≤ 1 := by omega
  have hn0 : ¬ (n : Int) ≤ 0 := by omega
  have s1 := fun W => slice_from (b := b) (n := n) (cap := cap) 1 1 rfl (by omega) hcp W
  have HK := hide (fun (W : World) (g : w.grownBy W none) => rkeys_any (by have h := (hW.on g).drop 1 (by omega); simpa only [List.drop_succ_cons, List.drop_zero, Nat.zero_add] using h))
  rw [hk] at HK
  clear hk
  have HE := hide (fun (W : World) (g : W1.grownBy W none) => r_bare (w := w) (W := W) (b := b) (s := refuseS t_bad used) hb rfl ((g.block _ hl1 (by simp)).trans HB.out.res) (gr_trans HB.out.gr g))
  have R1 := hide (fun (W : World) (g : W1.grownBy W none) => (g.block _ hl1 (by simp)).trans HB.out.res)
  have HF := hide (fun W => rfault_any t_bad (by decide) used W)
  clear B hb hW hl1 hn hcp hm hkp hks
  go_enter Tryd.func16, Tryd.ntmps16
  go_wp2_with (first
    | (refine wpList_store_row rfl 40 _ _ rfl (w.heap.size + 1) (cmC (cmdG 0 0) none 0) rfl rfl _ _ (HB.out.nw _) (cmd_size _ _ _) rfl (cmd_one _ _ _) ?_; rw [HB.out.st]; clear eW z0)
    | (go_at_call 33; refine (HK.out W1 HB.out.gr).mono ?_; rintro e w9 ⟨rfl, rfl⟩)
    | (go_at_call 34; refine (rbad_any _).mono ?_; rintro e w7 ⟨rfl, rfl⟩)
    | (go_at_call 14; refine (HF.out _).mono ?_; rintro e w1 ⟨rfl, g1⟩; replace g1 := hide g1)
    | (refine wpList_store_row rfl 34 _ _ rfl w.heap.size (stC (refuseS t_bad used) none 0 none 0 none 0) rfl rfl _ _ (R1.out w1 g1.out) (step_size _ _ _ _ _ _ _) rfl (step_one _ _ _ _ _ _ _) ?_))
  exact step_ret rfl (HE.out w1 g1.out).1 rfl rfl (HE.out w1 g1.out).2
set_option maxRecDepth 100000 in
set_option maxHeartbeats 4000000 in
theorem rg_get_ok (hW : Ru w b 0 n cap (vb_get :: ks)) (hks : ks ≠ []) (hk : rkeysN ks = true) (hl : ks.length ≤ 5000) (used : Int) : Calls Tryd.prog 16 #[.slice (some ⟨b, 0, none⟩) n cap, .int .i64 used] w fun e w' => REnd b (⟨reqD { begun vb_get with keys := ks }, ⟨#[]⟩, used, 0, false, 0⟩) w e w' := by
  have hb := hW.lt
  have hn := hW.n
  have hcp := hW.c
  have hm := hW.m
  unfold maxLen at hm
  have hkp : 0 < ks.length := List.length_pos_iff.2 hks
  simp only [List.length_cons] at hn
  obtain ⟨W0, W1, B⟩ := begG_of w (cmdG 0 0)
  have a0 := (hW.on B.g0).at0 0 (by simp)
  have b0 := (hW.on B.gr).at0 0 (by simp)
  have eW := B.eW
  have z0 := B.z0
  have HB := hide B
  have hl1 : w.heap.size < W1.heap.size := by have := HB.out.z; omega
  simp only [List.getElem_cons_zero, List.getElem_cons_succ, vb_get, mkB] at a0 b0
  have hni : ¬ (n : Int) ≤ 1 := by omega
  have hn0 : ¬ (n : Int) ≤ 0 := by omega
  have s1 := fun W => slice_from (b := b) (n := n) (cap := cap) 1 1 rfl (by omega) hcp W
  have HK := hide (fun (W : World) (g : w.grownBy W none) => rkeys_any (by have h := (hW.on g).drop 1 (by omega); simpa only [List.drop_succ_cons, List.drop_zero, Nat.zero_add] using h))
  rw [hk] at HK
  clear hk
  obtain ⟨d, hd⟩ : ∃ d : Dv, d = { begun vb_get with keys := ks } := ⟨_, rfl⟩
  rw [← hd]
  have hdk : d.keys = ks := by rw [hd]
  obtain ⟨W4, hW4⟩ : ∃ W4, W4 = W1.alloc (.cells (rqR d 0 none 0 (some ⟨b, 1, none⟩) (cap - 1)) 31) := ⟨_, rfl⟩
  have I0 : GInv w W4 d (some ⟨b, 1, none⟩) (cap - 1) 0 none 0 [] := by
    have z2 := HB.out.z
    have g : W1.grownBy W4 none := by rw [hW4]; exact World.grownBy_alloc _ _ _
    refine ⟨World.ownsRow_nil _ _ _ _, by rw [hW4, ← z2]; exact World.alloc_heap_new _ _, (g.block _ (by omega) (by simp)).trans (HB.out.cmd.trans (by rw [hd]; rfl)), (g.block _ (by omega) (by simp)).trans HB.out.res, gr_trans HB.out.gr g, by rw [hW4, World.size_alloc, z2]; exact Nat.le_refl _⟩
  have HR4 : Hid (∀ old, (W1.alloc (.cells old 31)).setRow (w.heap.size + 2) (rqR d 0 none 0 (some ⟨b, 1, none⟩) (cap - 1)) = W4) := fun old => by rw [hW4, ← HB.out.z]; exact setRow_alloc _ _ _ _
  have HN4 : Hid (∀ old, (W1.alloc (.cells old 31)).heap[w.heap.size + 2]? = some (.cells old 31 (0, 0))) := fun old => by rw [← HB.out.z]; exact World.alloc_heap_new _ _
  have HZ4 : W1.heap.size = w.heap.size + 2 := HB.out.z
  have HD : Hid (rqR d 0 none 0 (some ⟨b, 1, none⟩) (cap - 1) = #[.slice none 0 0, .int .i64 1, .string (mkB vb_get), .int .i64 0, .int .u32 0, .bool false, .bool false, .string ⟨#[]⟩, .slice none 0 0, .slice (some ⟨b, 1, none⟩) (n - 1) (cap - 1), .bool false]) := by
    show _ = _
    unfold rqR
    rw [hdk, show ks.length = n - 1 by omega, hd]
    rfl
  simp only [vb_get, mkB] at HD
  have HU : Hid (∀ (W : World) (g : w.grownBy W none) (k : Nat) (hk : k < ks.length) (j : Nat) (hj : j = k + 1), W.cell? ⟨b, j, none⟩ = some (.string (mkB (ks[k]'hk)))) := fun W g k hk j hj => by
    subst hj
    exact (hW.on g).at0 (k + 1) (by simp only [List.length_cons]; omega)
  have hcnt : n = ks.length + 1 := by omega
  have HI0 := hide I0
  have HWR := hide hW
  replace hcnt := hide hcnt
  replace hd := hide hd
  replace hdk := hide hdk
  replace hl := hide hl
  have HKS := hide hks
  obtain ⟨i0, hi, hz0, hz1, hz2⟩ := info_parts info_cmd
  clear B I0 hW4 hb hW hl1 hn hkp hks
  go_enter Tryd.func16, Tryd.ntmps16
  go_wp2_with (first
    | (refine wpList_store_row rfl 40 _ _ rfl (w.heap.size + 1) (cmC (cmdG 0 0) none 0) rfl rfl _ _ (HB.out.nw _) (cmd_size _ _ _) rfl (cmd_one _ _ _) ?_; rw [HB.out.st]; clear eW z0)
    | (go_at_call 33; refine (HK.out W1 HB.out.gr).mono ?_; rintro e w9 ⟨rfl, rfl⟩)
    | (refine wpList_store_row rfl 31 _ _ rfl (w.heap.size + 2) (rqR d 0 none 0 (some ⟨b, 1, none⟩) (cap - 1)) rfl (by rw [HD.out]; rfl) _ _ (HN4.out _) (rqR_size _ _ _ _ _ _) rfl (rqR_one _ _ _ _ _ _) ?_; rw [HR4.out]))
  go_loopw [12] (fun i wr => ∃ j k : Nat, i = .int .i64 (j : Int) ∧ j = k + 1 ∧ k ≤ ks.length ∧ Hid (∃ ca cc y, GInv w wr d (some ⟨b, 1, none⟩) (cap - 1) k ca cc y)) (fun i _ => n - (intOf i).toNat)
  case atStart => exact ⟨1, 0, rfl, rfl, Nat.zero_le _, ⟨none, 0, [], HI0.out⟩⟩
  case round =>
    obtain ⟨j, k, rfl, hj, hk, HI⟩ := hrel
    obtain ⟨ca, cc, y, I⟩ := HI.out
    have hcn := hcnt.out
    by_cases hlt : k < ks.length
    · have hji : (j : Int) < (n : Int) := by omega
      have e1 : wrap64 ((j : Int) + 1) = (j : Int) + 1 := by unfold wrap64; omega
      have cj := HU.out wr I.gr k hlt j hj
      obtain ⟨x1, hx1⟩ : ∃ x1, x1 = ks[k] := ⟨_, rfl⟩
      rw [← hx1] at cj
      obtain ⟨W7, e7, p7, f7, r7, s7, J7⟩ := ginv_key I x1
      replace J7 := hide J7
      have hr7 := hide (cm_row J7.out.cmd)
      have HX1 : Hid (d.keys.take (k + 1) = d.keys.take k ++ [x1]) := by show _ = _; rw [hdk.out, List.take_succ_eq_append_getElem hlt, hx1]
      clear hx1 hcn
      have hkl : k ≤ 5000 := Nat.le_trans hk hl.out
      replace hj := hide hj
      replace hkl := hide hkl
      go_wp2_with (first
        | (refine wpList_load_row rfl 40 _ rfl (w.heap.size + 1) rfl _ (cmC (cmdD d x1) none 0) _ _ hr7.out Tryd.underlying40 rfl (cmd_size _ _ _) ?_)
        | (refine wpList_buildSlice rfl 25 40 1 _ rfl (cmC (cmdD d x1) none 0) i0 _ Tryd.underlying25 hi hz0 (by rw [hz1]; decide) (by rw [hz1]; decide) (by rw [hz1]; kernel_rfl) ?_)
        | (at_builtin; refine wpList_append_own _ rfl _ _ 25 rfl (w.heap.size + 3) 40 i0 _ 10 96 Tryd.underlying25 hi hz0 hz1 hz2 rfl (by decide) (.slice ca k cc) k (cmdsV d none 0 (d.keys.take k)) rfl (own_goes J7.out.own (World.grownBy_alloc W7 _ none)) ⟨W7.heap.size, 0, none⟩ 1 1 (cmC (cmdD d x1) none 0).toList rfl rfl (news_row _ _ _) (fun u hu => Array.all_eq_true_iff_forall_mem.1 (cmd_one (cmdD d x1) none 0) u (by simpa using hu)) (app_b1 hkl.out) (app_b2 hkl.out) (Nat.le_trans J7.out.sz (World.grownBy_alloc W7 _ none).size) ?_; intro v' w1 o1 g1 _; obtain ⟨cb, cd, W9, rfl, e9, p9, f9, J9⟩ := ginv_app J7.out (World.grownBy_alloc W7 _ none) g1 (fun b hb => (own_at J7.out.own hb).1) o1 HX1.out; replace J9 := hide J9; clear o1 g1))
      go_roundw
      case rel => exact ⟨j + 1, k + 1, by go_num, by have := hj.out; omega, hlt, ⟨cb, cd, x1, J9.out⟩⟩
      case measure => simp [intOf]; omega
    · obtain rfl : k = ks.length := by omega
      have hji : ¬ (j : Int) < (n : Int) := by omega
      have I2 := I
      rw [← hdk.out] at I2
      obtain ⟨hr2, hr0, hE⟩ := ginv_end (n := n) (u := used) I2 (by rw [hdk.out]; exact HKS.out) (by rw [hd.out]; rfl) HWR.out (by rw [hdk.out]; rfl) (by omega)
      have hlk : (reqD d).cmds.length = ks.length := by rw [ksD_cmds, List.length_map, ksD, if_neg (by rw [hdk.out]; exact HKS.out), hdk.out]
      have HQ := hide (req_cells (d := d) (a := some ⟨b, 1, none⟩) (c := cap - 1) hlk ca cc)
      have HS := hide (ok_cells (d := d) (a := some ⟨b, 1, none⟩) (c := cap - 1) hlk used ca cc)
      clear hlk
      replace hr2 := hide hr2
      replace hr0 := hide hr0
      replace hE := hide hE
      replace hj := hide hj
      clear I I2 hcn HI
      go_wp2_with (first
        | (refine wpList_load_row rfl 31 _ rfl (w.heap.size + 2) rfl _ (rqC (reqD d) ca cc none 0 (some ⟨b, 1, none⟩) (cap - 1)) _ _ hr2.out Tryd.underlying31 rfl (req_size _ _ _ _ _ _ _) ?_; rw [HQ.out])
        | (refine wpList_store_row rfl 34 _ _ rfl w.heap.size (stC (okS d used) ca cc none 0 (some ⟨b, 1, none⟩) (cap - 1)) rfl (by rw [HS.out]; rfl) _ _ hr0.out (step_size _ _ _ _ _ _ _) rfl (step_one _ _ _ _ _ _ _) ?_))
      exact step_ret rfl hE.out.1 rfl rfl hE.out.2
set_option maxRecDepth 100000 in
set_option maxHeartbeats 4000000 in
theorem rg_gets_few (hW : Ru w b 0 n cap (vb_gets :: ws)) (hne : n ≤ 1) (used : Int) : Calls Tryd.prog 16 #[.slice (some ⟨b, 0, none⟩) n cap, .int .i64 used] w fun e w' => REnd b (refuseS t_ERROR used) w e w' := by
  have hb := hW.lt
  have hn := hW.n
  have hcp := hW.c
  have hm := hW.m
  unfold maxLen at hm
  simp only [List.length_cons] at hn
  obtain ⟨W0, W1, B⟩ := begG_of w (cmdG 0 0)
  have a0 := (hW.on B.g0).at0 0 (by simp)
  have b0 := (hW.on B.gr).at0 0 (by simp)
  have eW := B.eW
  have z0 := B.z0
  have HB := hide B
  have hl1 : w.heap.size < W1.heap.size := by have := HB.out.z; omega
  simp only [List.getElem_cons_zero, List.getElem_cons_succ, vb_gets, mkB] at a0 b0
  have hni : (n : Int) ≤ 1 := by omega
  have hn0 : ¬ (n : Int) ≤ 0 := by omega
  have HE := hide (fun (W : World) (g : W1.grownBy W none) => r_bare (w := w) (W := W) (b := b) (s := refuseS t_ERROR used) hb rfl ((g.block _ hl1 (by simp)).trans HB.out.res) (gr_trans HB.out.gr g))
  have R1 := hide (fun (W : World) (g : W1.grownBy W none) => (g.block _ hl1 (by simp)).trans HB.out.res)
  have HF := hide (fun W => rfault_any t_ERROR (by decide) used W)
  simp only [t_ERROR, mkB] at HF
  clear B hb hW hl1 hn hcp hm hne
  go_enter Tryd.func16, Tryd.ntmps16
  go_wp2_with (first
    | (refine wpList_store_row rfl 40 _ _ rfl (w.heap.size + 1) (cmC (cmdG 0 0) none 0) rfl rfl _ _ (HB.out.nw _) (cmd_size _ _ _) rfl (cmd_one _ _ _) ?_; rw [HB.out.st]; clear eW z0)
    | (go_at_call 14; refine (HF.out _).mono ?_; rintro e w1 ⟨rfl, g1⟩; replace g1 := hide g1)
    | (refine wpList_store_row rfl 34 _ _ rfl w.heap.size (stC (refuseS t_ERROR used) none 0 none 0 none 0) rfl rfl _ _ (R1.out w1 g1.out) (step_size _ _ _ _ _ _ _) rfl (step_one _ _ _ _ _ _ _) ?_))
  exact step_ret rfl (HE.out w1 g1.out).1 rfl rfl (HE.out w1 g1.out).2
set_option maxRecDepth 100000 in
set_option maxHeartbeats 4000000 in
theorem rg_gets_keys (hW : Ru w b 0 n cap (vb_gets :: ks)) (hks : ks ≠ []) (hk : rkeysN ks = false) (used : Int) : Calls Tryd.prog 16 #[.slice (some ⟨b, 0, none⟩) n cap, .int .i64 used] w fun e w' => REnd b (refuseS t_bad used) w e w' := by
  have hb := hW.lt
  have hn := hW.n
  have hcp := hW.c
  have hm := hW.m
  unfold maxLen at hm
  have hkp : 0 < ks.length := List.length_pos_iff.2 hks
  simp only [List.length_cons] at hn
  obtain ⟨W0, W1, B⟩ := begG_of w (cmdG 0 0)
  have a0 := (hW.on B.g0).at0 0 (by simp)
  have b0 := (hW.on B.gr).at0 0 (by simp)
  have eW := B.eW
  have z0 := B.z0
  have HB := hide B
  have hl1 : w.heap.size < W1.heap.size := by have := HB.out.z; omega
  simp only [List.getElem_cons_zero, List.getElem_cons_succ, vb_gets, mkB] at a0 b0
  have hni : ¬ (n : Int) ≤ 1 := by omega
  have hn0 : ¬ (n : Int) ≤ 0 := by omega
  have s1 := fun W => slice_from (b := b) (n := n) (cap := cap) 1 1 rfl (by omega) hcp W
  have HK := hide (fun (W : World) (g : w.grownBy W none) => rkeys_any (by have h := (hW.on g).drop 1 (by omega); simpa only [List.drop_succ_cons, List.drop_zero, Nat.zero_add] using h))
  rw [hk] at HK
  clear hk
  have HE := hide (fun (W : World) (g : W1.grownBy W none) => r_bare (w := w) (W := W) (b := b) (s := refuseS t_bad used) hb rfl ((g.block _ hl1 (by simp)).trans HB.out.res) (gr_trans HB.out.gr g))
  have R1 := hide (fun (W : World) (g : W1.grownBy W none) => (g.block _ hl1 (by simp)).trans HB.out.res)
  have HF := hide (fun W => rfault_any t_bad (by decide) used W)
  clear B hb hW hl1 hn hcp hm hkp hks
  go_enter Tryd.func16, Tryd.ntmps16
  go_wp2_with (first
    | (refine wpList_store_row rfl 40 _ _ rfl (w.heap.size + 1) (cmC (cmdG 0 0) none 0) rfl rfl _ _ (HB.out.nw _) (cmd_size _ _ _) rfl (cmd_one _ _ _) ?_; rw [HB.out.st]; clear eW z0)
    | (go_at_call 33; refine (HK.out W1 HB.out.gr).mono ?_; rintro e w9 ⟨rfl, rfl⟩)
    | (go_at_call 34; refine (rbad_any _).mono ?_; rintro e w7 ⟨rfl, rfl⟩)
    | (go_at_call 14; refine (HF.out _).mono ?_; rintro e w1 ⟨rfl, g1⟩; replace g1 := hide g1)
    | (refine wpList_store_row rfl 34 _ _ rfl w.heap.size (stC (refuseS t_bad used) none 0 none 0 none 0) rfl rfl _ _ (R1.out w1 g1.out) (step_size _ _ _ _ _ _ _) rfl (step_one _ _ _ _ _ _ _) ?_))
  exact step_ret rfl (HE.out w1 g1.out).1 rfl rfl (HE.out w1 g1.out).2
set_option maxRecDepth 100000 in
set_option maxHeartbeats 4000000 in
theorem rg_gets_ok (hW : Ru w b 0 n cap (vb_gets :: ks)) (hks : ks ≠ []) (hk : rkeysN ks = true) (hl : ks.length ≤ 5000) (used : Int) : Calls Tryd.prog 16 #[.slice (some ⟨b, 0, none⟩) n cap, .int .i64 used] w fun e w' => REnd b (⟨reqD { begun vb_gets with keys := ks }, ⟨#[]⟩, used, 0, false, 0⟩) w e w' := by
  have hb := hW.lt
  have hn := hW.n
  have hcp := hW.c
  have hm := hW.m
  unfold maxLen at hm
  have hkp : 0 < ks.length := List.length_pos_iff.2 hks
  simp only [List.length_cons] at hn
  obtain ⟨W0, W1, B⟩ := begG_of w (cmdG 0 0)
  have a0 := (hW.on B.g0).at0 0 (by simp)
  have b0 := (hW.on B.gr).at0 0 (by simp)
  have eW := B.eW
  have z0 := B.z0
  have HB := hide B
  have hl1 : w.heap.size < W1.heap.size := by have := HB.out.z; omega
  simp only [List.getElem_cons_zero, List.getElem_cons_succ, vb_gets, mkB] at a0 b0
  have hni : ¬ (n : Int) ≤ 1 := by omega
  have hn0 : ¬ (n : Int) ≤ 0 := by omega
  have s1 := fun W => slice_from (b := b) (n := n) (cap := cap) 1 1 rfl (by omega) hcp W
  have HK := hide (fun (W : World) (g : w.grownBy W none) => rkeys_any (by have h := (hW.on g).drop 1 (by omega); simpa only [List.drop_succ_cons, List.drop_zero, Nat.zero_add] using h))
  rw [hk] at HK
  clear hk
  obtain ⟨d, hd⟩ : ∃ d : Dv, d = { begun vb_gets with keys := ks } := ⟨_, rfl⟩
  rw [← hd]
  have hdk : d.keys = ks := by rw [hd]
  obtain ⟨W4, hW4⟩ : ∃ W4, W4 = W1.alloc (.cells (rqR d 0 none 0 (some ⟨b, 1, none⟩) (cap - 1)) 31) := ⟨_, rfl⟩
  have I0 : GInv w W4 d (some ⟨b, 1, none⟩) (cap - 1) 0 none 0 [] := by
    have z2 := HB.out.z
    have g : W1.grownBy W4 none := by rw [hW4]; exact World.grownBy_alloc _ _ _
    refine ⟨World.ownsRow_nil _ _ _ _, by rw [hW4, ← z2]; exact World.alloc_heap_new _ _, (g.block _ (by omega) (by simp)).trans (HB.out.cmd.trans (by rw [hd]; rfl)), (g.block _ (by omega) (by simp)).trans HB.out.res, gr_trans HB.out.gr g, by rw [hW4, World.size_alloc, z2]; exact Nat.le_refl _⟩
  have HR4 : Hid (∀ old, (W1.alloc (.cells old 31)).setRow (w.heap.size + 2) (rqR d 0 none 0 (some ⟨b, 1, none⟩) (cap - 1)) = W4) := fun old => by rw [hW4, ← HB.out.z]; exact setRow_alloc _ _ _ _
  have HN4 : Hid (∀ old, (W1.alloc (.cells old 31)).heap[w.heap.size + 2]? = some (.cells old 31 (0, 0))) := fun old => by rw [← HB.out.z]; exact World.alloc_heap_new _ _
  have HZ4 : W1.heap.size = w.heap.size + 2 := HB.out.z
  have HD : Hid (rqR d 0 none 0 (some ⟨b, 1, none⟩) (cap - 1) = #[.slice none 0 0, .int .i64 1, .string (mkB vb_gets), .int .i64 0, .int .u32 0, .bool false, .bool true, .string ⟨#[]⟩, .slice none 0 0, .slice (some ⟨b, 1, none⟩) (n - 1) (cap - 1), .bool false]) := by
    show _ = _
    unfold rqR
    rw [hdk, show ks.length = n - 1 by omega, hd]
    rfl
  simp only [vb_gets, mkB] at HD
  have HU : Hid (∀ (W : World) (g : w.grownBy W none) (k : Nat) (hk : k < ks.length) (j : Nat) (hj : j = k + 1), W.cell? ⟨b, j, none⟩ = some (.string (mkB (ks[k]'hk)))) := fun W g k hk j hj => by
    subst hj
    exact (hW.on g).at0 (k + 1) (by simp only [List.length_cons]; omega)
  have hcnt : n = ks.length + 1 := by omega
  have HI0 := hide I0
  have HWR := hide hW
  replace hcnt := hide hcnt
  replace hd := hide hd
  replace hdk := hide hdk
  replace hl := hide hl
  have HKS := hide hks
  obtain ⟨i0, hi, hz0, hz1, hz2⟩ := info_parts info_cmd
  clear B I0 hW4 hb hW hl1 hn hkp hks
  go_enter Tryd.func16, Tryd.ntmps16
  go_wp2_with (first
    | (refine wpList_store_row rfl 40 _ _ rfl (w.heap.size + 1) (cmC (cmdG 0 0) none 0) rfl rfl _ _ (HB.out.nw _) (cmd_size _ _ _) rfl (cmd_one _ _ _) ?_; rw [HB.out.st]; clear eW z0)
    | (go_at_call 33; refine (HK.out W1 HB.out.gr).mono ?_; rintro e w9 ⟨rfl, rfl⟩)
    | (refine wpList_store_row rfl 31 _ _ rfl (w.heap.size + 2) (rqR d 0 none 0 (some ⟨b, 1, none⟩) (cap - 1)) rfl (by rw [HD.out]; rfl) _ _ (HN4.out _) (rqR_size _ _ _ _ _ _) rfl (rqR_one _ _ _ _ _ _) ?_; rw [HR4.out]))
  go_loopw [12] (fun i wr => ∃ j k : Nat, i = .int .i64 (j : Int) ∧ j = k + 1 ∧ k ≤ ks.length ∧ Hid (∃ ca cc y, GInv w wr d (some ⟨b, 1, none⟩) (cap - 1) k ca cc y)) (fun i _ => n - (intOf i).toNat)
  case atStart => exact ⟨1, 0, rfl, rfl, Nat.zero_le _, ⟨none, 0, [], HI0.out⟩⟩
  case round =>
    obtain ⟨j, k, rfl, hj, hk, HI⟩ := hrel
    obtain ⟨ca, cc, y, I⟩ := HI.out
    have hcn := hcnt.out
    by_cases hlt : k < ks.length
    · have hji : (j : Int) < (n : Int) := by omega
      have e1 : wrap64 ((j : Int) + 1) = (j : Int) + 1 := by unfold wrap64; omega
      have cj := HU.out wr I.gr k hlt j hj
      obtain ⟨x1, hx1⟩ : ∃ x1, x1 = ks[k] := ⟨_, rfl⟩
      rw [← hx1] at cj
      obtain ⟨W7, e7, p7, f7, r7, s7, J7⟩ := ginv_key I x1
      replace J7 := hide J7
      have hr7 := hide (cm_row J7.out.cmd)
      have HX1 : Hid (d.keys.take (k + 1) = d.keys.take k ++ [x1]) := by show _ = _; rw [hdk.out, List.take_succ_eq_append_getElem hlt, hx1]
      clear hx1 hcn
      have hkl : k ≤ 5000 := Nat.le_trans hk hl.out
      replace hj := hide hj
      replace hkl := hide hkl
      go_wp2_with (first
        | (refine wpList_load_row rfl 40 _ rfl (w.heap.size + 1) rfl _ (cmC (cmdD d x1) none 0) _ _ hr7.out Tryd.underlying40 rfl (cmd_size _ _ _) ?_)
        | (refine wpList_buildSlice rfl 25 40 1 _ rfl (cmC (cmdD d x1) none 0) i0 _ Tryd.underlying25 hi hz0 (by rw [hz1]; decide) (by rw [hz1]; decide) (by rw [hz1]; kernel_rfl) ?_)
        | (at_builtin; refine wpList_append_own _ rfl _ _ 25 rfl (w.heap.size + 3) 40 i0 _ 10 96 Tryd.underlying25 hi hz0 hz1 hz2 rfl (by decide) (.slice ca k cc) k (cmdsV d none 0 (d.keys.take k)) rfl (own_goes J7.out.own (World.grownBy_alloc W7 _ none)) ⟨W7.heap.size, 0, none⟩ 1 1 (cmC (cmdD d x1) none 0).toList rfl rfl (news_row _ _ _) (fun u hu => Array.all_eq_true_iff_forall_mem.1 (cmd_one (cmdD d x1) none 0) u (by simpa using hu)) (app_b1 hkl.out) (app_b2 hkl.out) (Nat.le_trans J7.out.sz (World.grownBy_alloc W7 _ none).size) ?_; intro v' w1 o1 g1 _; obtain ⟨cb, cd, W9, rfl, e9, p9, f9, J9⟩ := ginv_app J7.out (World.grownBy_alloc W7 _ none) g1 (fun b hb => (own_at J7.out.own hb).1) o1 HX1.out; replace J9 := hide J9; clear o1 g1))
      go_roundw
      case rel => exact ⟨j + 1, k + 1, by go_num, by have := hj.out; omega, hlt, ⟨cb, cd, x1, J9.out⟩⟩
      case measure => simp [intOf]; omega
    · obtain rfl : k = ks.length := by omega
      have hji : ¬ (j : Int) < (n : Int) := by omega
      have I2 := I
      rw [← hdk.out] at I2
      obtain ⟨hr2, hr0, hE⟩ := ginv_end (n := n) (u := used) I2 (by rw [hdk.out]; exact HKS.out) (by rw [hd.out]; rfl) HWR.out (by rw [hdk.out]; rfl) (by omega)
      have hlk : (reqD d).cmds.length = ks.length := by rw [ksD_cmds, List.length_map, ksD, if_neg (by rw [hdk.out]; exact HKS.out), hdk.out]
      have HQ := hide (req_cells (d := d) (a := some ⟨b, 1, none⟩) (c := cap - 1) hlk ca cc)
      have HS := hide (ok_cells (d := d) (a := some ⟨b, 1, none⟩) (c := cap - 1) hlk used ca cc)
      clear hlk
      replace hr2 := hide hr2
      replace hr0 := hide hr0
      replace hE := hide hE
      replace hj := hide hj
      clear I I2 hcn HI
      go_wp2_with (first
        | (refine wpList_load_row rfl 31 _ rfl (w.heap.size + 2) rfl _ (rqC (reqD d) ca cc none 0 (some ⟨b, 1, none⟩) (cap - 1)) _ _ hr2.out Tryd.underlying31 rfl (req_size _ _ _ _ _ _ _) ?_; rw [HQ.out])
        | (refine wpList_store_row rfl 34 _ _ rfl w.heap.size (stC (okS d used) ca cc none 0 (some ⟨b, 1, none⟩) (cap - 1)) rfl (by rw [HS.out]; rfl) _ _ hr0.out (step_size _ _ _ _ _ _ _) rfl (step_one _ _ _ _ _ _ _) ?_))
      exact step_ret rfl hE.out.1 rfl rfl hE.out.2
end
end Go.Proofs.YtfcmnkhfmofioaaDoor
