/- The document's own Parse of the text dialect: its first words. Conditions: at most 5000 bytes. -/
import Derived.Test.YtfcmnkhfmofioaaDoorRef14T
namespace Go.Proofs.YtfcmnkhfmofioaaDoor
set_option linter.unusedVariables false
set_option linter.unusedSimpArgs false
open Go.RowKit

section
variable {w : World} {a : Option Addr} {len cap : Nat} {l x1 v y : List UInt8} {ws : List (List UInt8)} {u n m : Nat}
set_option maxRecDepth 100000 in
set_option maxHeartbeats 4000000 in
theorem rp_flush_yes (h : Bu w a len cap l) (hlen : len ≤ 5000) (hL : lineN l = (x1, (u : Int), 0)) (hx : x1.length ≤ 2048) (hu : u ≤ len) (hw : wordsL x1 = vb_flush :: (ws ++ [t_noreply])) (hn : n = ws.length + 2) (hb : ((n : Int) == 1) = false) (h1 : (1 : Int) < (n : Int)) (h3 : decide ((n : Int) ≤ 3) = true) : Calls Tryd.prog 8 #[.slice a len cap] w fun e w' => ParseEnd (rothersN vb_flush ws true (u : Int)) w e w' := by
  obtain ⟨W0, B⟩ := begS_of w
  have eW := B.eW
  have HL := hide (rline_any (h.on (below_gr B.gr)) (by omega))
  rw [hL] at HL
  simp only [lineV] at HL
  have HWD := hide (refWords_any ⟨x1.toArray⟩ (mk_few hx) W0)
  obtain ⟨hwn, hwl⟩ := words_few hx hw
  have HB := hide B
  have HBu := hide (fun (W : World) (g : w.grownBy W none) => h.on (below_gr g))
  have HM := hide (fun W => rmany_any vb_flush W)
  rw [show rmanyN vb_flush = 0 by decide] at HM
  have HOP := hide (fun W => rop_any vb_flush W)
  rw [show ropN vb_flush = -1 by decide] at HOP
  simp only [vb_flush, mkB] at HM HOP
  have hn0 : ¬ (n : Int) = 0 := by omega
  have hnp : ¬ (n : Int) ≤ 0 := by omega
  obtain ⟨m, hm⟩ : ∃ m, n = m + 1 := ⟨n - 1, by omega⟩
  have eN := last_wrap hm (by simp at hwn; omega)
  have hmn := last_lt hm
  have hm0 : 0 < m := by omega
  have Hm := hide hm
  have HN := hide hn
  have HG := hide (fun (W : World) (b cp : Nat) (hR : Ru W b 0 m cp (vb_flush :: ws)) => rothers_any (q := true) hR (fun z hz => hwl z (List.mem_cons_of_mem _ (List.mem_append_left _ hz))) (by decide) (u : Int))
  clear B h hL hx hlen hu hwl hwn hn hm
  go_enter Tryd.func8, Tryd.ntmps8
  go_wp2_with (first
    | (go_at_call 13; refine HL.out.mono ?_; rintro e w1 ⟨rfl, rfl⟩; clear eW)
    | (go_at_call 15; refine HWD.out.mono ?_; rintro e w2 ⟨vv, rfl, o2, b2⟩; obtain ⟨b, cp, rfl, hb, hR⟩ := words_rn (n := n) o2 hw (by rw [HN.out]; simp); have g2 := gr_of_below b2; have c0 := hR.at0 0 (by simp); simp only [List.getElem_cons_zero, vb_flush, mkB] at c0; have cl := Ru.last (ws := vb_flush :: ws) hR Hm.out; simp only [t_noreply, mkB] at cl; have sl := fun W => slice_til (b := b) (n := n) (m := m) (cap := cp) (by have := Hm.out; omega) hR.c W; have hR2 := hide (Ru.til (ws := vb_flush :: ws) hR Hm.out); replace hb := hide hb; replace g2 := hide g2; clear o2 b2 hR)
    | (go_at_call 18; refine (HM.out _).mono ?_; rintro e w7 ⟨rfl, rfl⟩)
    | (go_at_call 19; refine (HOP.out _).mono ?_; rintro e w3 ⟨rfl, g3⟩; have hR3 := hR2.out.on g3; have G3 := hide (gr_trans g2.out g3); have d0 := hR3.at0 0 (by simp); simp only [List.getElem_cons_zero, vb_flush, mkB] at d0; have HG3 := hide (HG.out w3 b cp hR3); have L3 := hide hR3.lt; clear g3 hR3)
    | (go_at_call 21; refine HG3.out.mono ?_; rintro e w4 R3; obtain ⟨ca, cc, ta, tc, ka, kc, rfl, r4, E4⟩ := rend_parse HB.out hb.out (L3.out) (G3.out) R3; replace r4 := hide r4; replace E4 := hide E4; clear R3)
    | (refine wpList_store_row rfl 34 _ _ rfl w.heap.size (stC (rothersN vb_flush ws true (u : Int)) ca cc ta tc ka kc) rfl rfl _ _ r4.out (step_size _ _ _ _ _ _ _) rfl (step_one _ _ _ _ _ _ _) ?_))
  exact step_ret rfl E4.out.1 rfl rfl E4.out.2
set_option maxRecDepth 100000 in
set_option maxHeartbeats 4000000 in
theorem rp_flush_few (h : Bu w a len cap l) (hlen : len ≤ 5000) (hL : lineN l = (x1, (u : Int), 0)) (hx : x1.length ≤ 2048) (hu : u ≤ len) (hw : wordsL x1 = vb_flush :: ws) (hn : n = ws.length + 1) (hb : ((n : Int) == 1) = false) (h1 : (1 : Int) < (n : Int)) (h3 : ¬ (n : Int) ≤ 3) : Calls Tryd.prog 8 #[.slice a len cap] w fun e w' => ParseEnd (rothersN vb_flush ws false (u : Int)) w e w' := by
  obtain ⟨W0, B⟩ := begS_of w
  have eW := B.eW
  have HL := hide (rline_any (h.on (below_gr B.gr)) (by omega))
  rw [hL] at HL
  simp only [lineV] at HL
  have HWD := hide (refWords_any ⟨x1.toArray⟩ (mk_few hx) W0)
  obtain ⟨hwn, hwl⟩ := words_few hx hw
  have HB := hide B
  have HBu := hide (fun (W : World) (g : w.grownBy W none) => h.on (below_gr g))
  have HM := hide (fun W => rmany_any vb_flush W)
  rw [show rmanyN vb_flush = 0 by decide] at HM
  have HOP := hide (fun W => rop_any vb_flush W)
  rw [show ropN vb_flush = -1 by decide] at HOP
  simp only [vb_flush, mkB] at HM HOP
  have hn0 : ¬ (n : Int) = 0 := by omega
  have hnp : ¬ (n : Int) ≤ 0 := by omega
  have HN := hide hn
  have HG := hide (fun (W : World) (b cp : Nat) (hR : Ru W b 0 n cp (vb_flush :: ws)) => rothers_any (q := false) hR (fun z hz => hwl z (List.mem_cons_of_mem _ hz)) (by decide) (u : Int))
  clear B h hL hx hlen hu hwl hwn hn
  go_enter Tryd.func8, Tryd.ntmps8
  go_wp2_with (first
    | (go_at_call 13; refine HL.out.mono ?_; rintro e w1 ⟨rfl, rfl⟩; clear eW)
    | (go_at_call 15; refine HWD.out.mono ?_; rintro e w2 ⟨vv, rfl, o2, b2⟩; obtain ⟨b, cp, rfl, hb, hR⟩ := words_rn (n := n) o2 hw HN.out; have g2 := gr_of_below b2; have c0 := hR.at0 0 (by simp); simp only [List.getElem_cons_zero, vb_flush, mkB] at c0; have hR2 := hide hR; replace hb := hide hb; replace g2 := hide g2; clear o2 b2 hR)
    | (go_at_call 18; refine (HM.out _).mono ?_; rintro e w7 ⟨rfl, rfl⟩)
    | (go_at_call 19; refine (HOP.out _).mono ?_; rintro e w3 ⟨rfl, g3⟩; have hR3 := hR2.out.on g3; have G3 := hide (gr_trans g2.out g3); have d0 := hR3.at0 0 (by simp); simp only [List.getElem_cons_zero, vb_flush, mkB] at d0; have HG3 := hide (HG.out w3 b cp hR3); have L3 := hide hR3.lt; clear g3 hR3)
    | (go_at_call 21; refine HG3.out.mono ?_; rintro e w4 R3; obtain ⟨ca, cc, ta, tc, ka, kc, rfl, r4, E4⟩ := rend_parse HB.out hb.out (L3.out) (G3.out) R3; replace r4 := hide r4; replace E4 := hide E4; clear R3)
    | (refine wpList_store_row rfl 34 _ _ rfl w.heap.size (stC (rothersN vb_flush ws false (u : Int)) ca cc ta tc ka kc) rfl rfl _ _ r4.out (step_size _ _ _ _ _ _ _) rfl (step_one _ _ _ _ _ _ _) ?_))
  exact step_ret rfl E4.out.1 rfl rfl E4.out.2
set_option maxRecDepth 100000 in
set_option maxHeartbeats 4000000 in
theorem rp_flush_one (h : Bu w a len cap l) (hlen : len ≤ 5000) (hL : lineN l = (x1, (u : Int), 0)) (hx : x1.length ≤ 2048) (hu : u ≤ len) (hw : wordsL x1 = vb_flush :: []) (hn : n = 1) (hb : ((n : Int) == 1) = true) : Calls Tryd.prog 8 #[.slice a len cap] w fun e w' => ParseEnd (rothersN vb_flush [] false (u : Int)) w e w' := by
  obtain ⟨W0, B⟩ := begS_of w
  have eW := B.eW
  have HL := hide (rline_any (h.on (below_gr B.gr)) (by omega))
  rw [hL] at HL
  simp only [lineV] at HL
  have HWD := hide (refWords_any ⟨x1.toArray⟩ (mk_few hx) W0)
  obtain ⟨hwn, hwl⟩ := words_few hx hw
  have HB := hide B
  have HBu := hide (fun (W : World) (g : w.grownBy W none) => h.on (below_gr g))
  have HM := hide (fun W => rmany_any vb_flush W)
  rw [show rmanyN vb_flush = 0 by decide] at HM
  have HOP := hide (fun W => rop_any vb_flush W)
  rw [show ropN vb_flush = -1 by decide] at HOP
  simp only [vb_flush, mkB] at HM HOP
  have hn0 : ¬ (n : Int) = 0 := by omega
  have hnp : ¬ (n : Int) ≤ 0 := by omega
  have h1 : ¬ (1 : Int) < (n : Int) := by omega
  have HN := hide hn
  have HG := hide (fun (W : World) (b cp : Nat) (hR : Ru W b 0 n cp (vb_flush :: [])) => rothers_any (q := false) hR (fun z hz => by cases hz) (by decide) (u : Int))
  clear B h hL hx hlen hu hwl hwn hn
  go_enter Tryd.func8, Tryd.ntmps8
  go_wp2_with (first
    | (go_at_call 13; refine HL.out.mono ?_; rintro e w1 ⟨rfl, rfl⟩; clear eW)
    | (go_at_call 15; refine HWD.out.mono ?_; rintro e w2 ⟨vv, rfl, o2, b2⟩; obtain ⟨b, cp, rfl, hb, hR⟩ := words_rn (n := n) o2 hw (by rw [HN.out]; simp); have g2 := gr_of_below b2; have c0 := hR.at0 0 (by simp); simp only [List.getElem_cons_zero, vb_flush, mkB] at c0; have hR2 := hide hR; replace hb := hide hb; replace g2 := hide g2; clear o2 b2 hR)
    | (go_at_call 18; refine (HM.out _).mono ?_; rintro e w7 ⟨rfl, rfl⟩)
    | (go_at_call 19; refine (HOP.out _).mono ?_; rintro e w3 ⟨rfl, g3⟩; have hR3 := hR2.out.on g3; have G3 := hide (gr_trans g2.out g3); have d0 := hR3.at0 0 (by simp); simp only [List.getElem_cons_zero, vb_flush, mkB] at d0; have HG3 := hide (HG.out w3 b cp hR3); have L3 := hide hR3.lt; clear g3 hR3)
    | (go_at_call 21; refine HG3.out.mono ?_; rintro e w4 R3; obtain ⟨ca, cc, ta, tc, ka, kc, rfl, r4, E4⟩ := rend_parse HB.out hb.out (L3.out) (G3.out) R3; replace r4 := hide r4; replace E4 := hide E4; clear R3)
    | (refine wpList_store_row rfl 34 _ _ rfl w.heap.size (stC (rothersN vb_flush [] false (u : Int)) ca cc ta tc ka kc) rfl rfl _ _ r4.out (step_size _ _ _ _ _ _ _) rfl (step_one _ _ _ _ _ _ _) ?_))
  exact step_ret rfl E4.out.1 rfl rfl E4.out.2
set_option maxRecDepth 100000 in
set_option maxHeartbeats 4000000 in
theorem rp_flush_last (h : Bu w a len cap l) (hlen : len ≤ 5000) (hL : lineN l = (x1, (u : Int), 0)) (hx : x1.length ≤ 2048) (hu : u ≤ len) (hw : wordsL x1 = vb_flush :: (ws ++ [y])) (hn : n = ws.length + 2) (hb : ((n : Int) == 1) = false) (h1 : (1 : Int) < (n : Int)) (h3 : decide ((n : Int) ≤ 3) = true) (hy : (y == t_noreply) = false) : Calls Tryd.prog 8 #[.slice a len cap] w fun e w' => ParseEnd (rothersN vb_flush (ws ++ [y]) false (u : Int)) w e w' := by
  obtain ⟨W0, B⟩ := begS_of w
  have eW := B.eW
  have HL := hide (rline_any (h.on (below_gr B.gr)) (by omega))
  rw [hL] at HL
  simp only [lineV] at HL
  have HWD := hide (refWords_any ⟨x1.toArray⟩ (mk_few hx) W0)
  obtain ⟨hwn, hwl⟩ := words_few hx hw
  have HB := hide B
  have HBu := hide (fun (W : World) (g : w.grownBy W none) => h.on (below_gr g))
  simp only [t_noreply] at hy
  have HM := hide (fun W => rmany_any vb_flush W)
  rw [show rmanyN vb_flush = 0 by decide] at HM
  have HOP := hide (fun W => rop_any vb_flush W)
  rw [show ropN vb_flush = -1 by decide] at HOP
  simp only [vb_flush, mkB] at HM HOP
  have hn0 : ¬ (n : Int) = 0 := by omega
  have hnp : ¬ (n : Int) ≤ 0 := by omega
  obtain ⟨m, hm⟩ : ∃ m, n = m + 1 := ⟨n - 1, by omega⟩
  have eN := last_wrap hm (by simp at hwn; omega)
  have hmn := last_lt hm
  have hm0 : 0 < m := by omega
  have Hm := hide hm
  have HN := hide hn
  have HG := hide (fun (W : World) (b cp : Nat) (hR : Ru W b 0 n cp (vb_flush :: (ws ++ [y]))) => rothers_any (q := false) hR (fun z hz => hwl z (List.mem_cons_of_mem _ hz)) (by decide) (u : Int))
  clear B h hL hx hlen hu hwl hwn hn hm
  go_enter Tryd.func8, Tryd.ntmps8
  go_wp2_with (first
    | (go_at_call 13; refine HL.out.mono ?_; rintro e w1 ⟨rfl, rfl⟩; clear eW)
    | (go_at_call 15; refine HWD.out.mono ?_; rintro e w2 ⟨vv, rfl, o2, b2⟩; obtain ⟨b, cp, rfl, hb, hR⟩ := words_rn (n := n) o2 hw (by rw [HN.out]; simp); have g2 := gr_of_below b2; have c0 := hR.at0 0 (by simp); simp only [List.getElem_cons_zero, vb_flush, mkB] at c0; have cl := Ru.last (ws := vb_flush :: ws) hR Hm.out; simp only [mkB] at cl; have hR2 := hide hR; replace hb := hide hb; replace g2 := hide g2; clear o2 b2 hR)
    | (go_at_call 18; refine (HM.out _).mono ?_; rintro e w7 ⟨rfl, rfl⟩)
    | (go_at_call 19; refine (HOP.out _).mono ?_; rintro e w3 ⟨rfl, g3⟩; have hR3 := hR2.out.on g3; have G3 := hide (gr_trans g2.out g3); have d0 := hR3.at0 0 (by simp); simp only [List.getElem_cons_zero, vb_flush, mkB] at d0; have HG3 := hide (HG.out w3 b cp hR3); have L3 := hide hR3.lt; clear g3 hR3)
    | (go_at_call 21; refine HG3.out.mono ?_; rintro e w4 R3; obtain ⟨ca, cc, ta, tc, ka, kc, rfl, r4, E4⟩ := rend_parse HB.out hb.out (L3.out) (G3.out) R3; replace r4 := hide r4; replace E4 := hide E4; clear R3)
    | (refine wpList_store_row rfl 34 _ _ rfl w.heap.size (stC (rothersN vb_flush (ws ++ [y]) false (u : Int)) ca cc ta tc ka kc) rfl rfl _ _ r4.out (step_size _ _ _ _ _ _ _) rfl (step_one _ _ _ _ _ _ _) ?_))
  exact step_ret rfl E4.out.1 rfl rfl E4.out.2
set_option maxRecDepth 100000 in
set_option maxHeartbeats 4000000 in
theorem rp_E_few (h : Bu w a len cap l) (hlen : len ≤ 5000) (hL : lineN l = (x1, (u : Int), 0)) (hx : x1.length ≤ 2048) (hu : u ≤ len) (hw : wordsL x1 = v :: ws) (hn : n = ws.length + 1) (ng : NoAsk v) (nv : NoVerb v) (hb : ((n : Int) == 1) = false) (h1 : (1 : Int) < (n : Int)) : Calls Tryd.prog 8 #[.slice a len cap] w fun e w' => ParseEnd (refuseS t_ERROR (u : Int)) w e w' := by
  obtain ⟨W0, B⟩ := begS_of w
  have eW := B.eW
  have HL := hide (rline_any (h.on (below_gr B.gr)) (by omega))
  rw [hL] at HL
  simp only [lineV] at HL
  have HWD := hide (refWords_any ⟨x1.toArray⟩ (mk_few hx) W0)
  obtain ⟨hwn, hwl⟩ := words_few hx hw
  have HB := hide B
  have HBu := hide (fun (W : World) (g : w.grownBy W none) => h.on (below_gr g))
  have n_get := ng.get_
  have n_gets := ng.gets_
  have n_gat := ng.gat_
  have n_gats := ng.gats_
  have n_version := ng.version_
  have n_quit := ng.quit_
  simp only [vb_get, vb_gets, vb_gat, vb_gats, vb_version, vb_quit] at n_get n_gets n_gat n_gats n_version n_quit
  clear ng
  have n_flush := nv.flush_
  have n_delete := nv.delete_
  have n_incr := nv.incr_
  have n_decr := nv.decr_
  have n_touch := nv.touch_
  simp only [vb_flush, vb_delete, vb_incr, vb_decr, vb_touch] at n_flush n_delete n_incr n_decr n_touch
  have ho : ropN v = -1 := rop_noverb nv
  have HM := hide (fun W => rmany_any v W)
  rw [show rmanyN v = 0 by exact rmany_no nv] at HM
  have HOP := hide (fun W => rop_any v W)
  rw [ho] at HOP
  clear ho nv
  simp only [mkB] at HM HOP
  have hn0 : ¬ (n : Int) = 0 := by omega
  have hnp : ¬ (n : Int) ≤ 0 := by omega
  have HN := hide hn
  have HF := hide (fun W => rfault_any t_ERROR (by decide) (u : Int) W)
  simp only [t_ERROR, mkB] at HF
  clear B h hL hx hlen hu hwl hwn hn
  go_enter Tryd.func8, Tryd.ntmps8
  go_wp2_with (first
    | (go_at_call 13; refine HL.out.mono ?_; rintro e w1 ⟨rfl, rfl⟩; clear eW)
    | (go_at_call 15; refine HWD.out.mono ?_; rintro e w2 ⟨vv, rfl, o2, b2⟩; obtain ⟨b, cp, rfl, hb, hR⟩ := words_rn (n := n) o2 hw HN.out; have g2 := gr_of_below b2; have c0 := hR.at0 0 (by simp); simp only [List.getElem_cons_zero, mkB] at c0; have hR2 := hide hR; replace hb := hide hb; replace g2 := hide g2; clear o2 b2 hR)
    | (go_at_call 18; refine (HM.out _).mono ?_; rintro e w7 ⟨rfl, rfl⟩)
    | (go_at_call 19; refine (HOP.out _).mono ?_; rintro e w3 ⟨rfl, g3⟩; have hR3 := hR2.out.on g3; have G3 := hide (gr_trans g2.out g3); have d0 := hR3.at0 0 (by simp); simp only [List.getElem_cons_zero, mkB] at d0; clear g3 hR3)
    | (go_at_call 14; refine (HF.out _).mono ?_; rintro e w4 ⟨rfl, g4⟩; obtain ⟨r3, E3⟩ := bare_parse (s := refuseS t_ERROR (u : Int)) HB.out rfl (gr_trans G3.out g4); replace r3 := hide r3; replace E3 := hide E3; clear g4)
    | (refine wpList_store_row rfl 34 _ _ rfl w.heap.size (stC (refuseS t_ERROR (u : Int)) none 0 none 0 none 0) rfl rfl _ _ r3.out (step_size _ _ _ _ _ _ _) rfl (step_one _ _ _ _ _ _ _) ?_))
  exact step_ret rfl E3.out.1 rfl rfl E3.out.2
set_option maxRecDepth 100000 in
set_option maxHeartbeats 4000000 in
theorem rp_E_one (h : Bu w a len cap l) (hlen : len ≤ 5000) (hL : lineN l = (x1, (u : Int), 0)) (hx : x1.length ≤ 2048) (hu : u ≤ len) (hw : wordsL x1 = v :: []) (hn : n = 1) (ng : NoAsk v) (nv : NoVerb v) (hb : ((n : Int) == 1) = true) : Calls Tryd.prog 8 #[.slice a len cap] w fun e w' => ParseEnd (refuseS t_ERROR (u : Int)) w e w' := by
  obtain ⟨W0, B⟩ := begS_of w
  have eW := B.eW
  have HL := hide (rline_any (h.on (below_gr B.gr)) (by omega))
  rw [hL] at HL
  simp only [lineV] at HL
  have HWD := hide (refWords_any ⟨x1.toArray⟩ (mk_few hx) W0)
  obtain ⟨hwn, hwl⟩ := words_few hx hw
  have HB := hide B
  have HBu := hide (fun (W : World) (g : w.grownBy W none) => h.on (below_gr g))
  have n_get := ng.get_
  have n_gets := ng.gets_
  have n_gat := ng.gat_
  have n_gats := ng.gats_
  have n_version := ng.version_
  have n_quit := ng.quit_
  simp only [vb_get, vb_gets, vb_gat, vb_gats, vb_version, vb_quit] at n_get n_gets n_gat n_gats n_version n_quit
  clear ng
  have n_flush := nv.flush_
  have n_delete := nv.delete_
  have n_incr := nv.incr_
  have n_decr := nv.decr_
  have n_touch := nv.touch_
  simp only [vb_flush, vb_delete, vb_incr, vb_decr, vb_touch] at n_flush n_delete n_incr n_decr n_touch
  have ho : ropN v = -1 := rop_noverb nv
  have HM := hide (fun W => rmany_any v W)
  rw [show rmanyN v = 0 by exact rmany_no nv] at HM
  have HOP := hide (fun W => rop_any v W)
  rw [ho] at HOP
  clear ho nv
  simp only [mkB] at HM HOP
  have hn0 : ¬ (n : Int) = 0 := by omega
  have hnp : ¬ (n : Int) ≤ 0 := by omega
  have h1 : ¬ (1 : Int) < (n : Int) := by omega
  have HN := hide hn
  have HF := hide (fun W => rfault_any t_ERROR (by decide) (u : Int) W)
  simp only [t_ERROR, mkB] at HF
  clear B h hL hx hlen hu hwl hwn hn
  go_enter Tryd.func8, Tryd.ntmps8
  go_wp2_with (first
    | (go_at_call 13; refine HL.out.mono ?_; rintro e w1 ⟨rfl, rfl⟩; clear eW)
    | (go_at_call 15; refine HWD.out.mono ?_; rintro e w2 ⟨vv, rfl, o2, b2⟩; obtain ⟨b, cp, rfl, hb, hR⟩ := words_rn (n := n) o2 hw (by rw [HN.out]; simp); have g2 := gr_of_below b2; have c0 := hR.at0 0 (by simp); simp only [List.getElem_cons_zero, mkB] at c0; have hR2 := hide hR; replace hb := hide hb; replace g2 := hide g2; clear o2 b2 hR)
    | (go_at_call 18; refine (HM.out _).mono ?_; rintro e w7 ⟨rfl, rfl⟩)
    | (go_at_call 19; refine (HOP.out _).mono ?_; rintro e w3 ⟨rfl, g3⟩; have hR3 := hR2.out.on g3; have G3 := hide (gr_trans g2.out g3); have d0 := hR3.at0 0 (by simp); simp only [List.getElem_cons_zero, mkB] at d0; clear g3 hR3)
    | (go_at_call 14; refine (HF.out _).mono ?_; rintro e w4 ⟨rfl, g4⟩; obtain ⟨r3, E3⟩ := bare_parse (s := refuseS t_ERROR (u : Int)) HB.out rfl (gr_trans G3.out g4); replace r3 := hide r3; replace E3 := hide E3; clear g4)
    | (refine wpList_store_row rfl 34 _ _ rfl w.heap.size (stC (refuseS t_ERROR (u : Int)) none 0 none 0 none 0) rfl rfl _ _ r3.out (step_size _ _ _ _ _ _ _) rfl (step_one _ _ _ _ _ _ _) ?_))
  exact step_ret rfl E3.out.1 rfl rfl E3.out.2
end
end Go.Proofs.YtfcmnkhfmofioaaDoor
