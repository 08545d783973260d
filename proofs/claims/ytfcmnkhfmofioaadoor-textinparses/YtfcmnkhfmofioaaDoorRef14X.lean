/- The document's own Parse of the text dialect: its first words. Conditions: at most 5000 bytes. -/
import Derived.Test.YtfcmnkhfmofioaaDoorRef14T
namespace Go.Proofs.YtfcmnkhfmofioaaDoor
set_option linter.unusedVariables false
set_option linter.unusedSimpArgs false
open Go.RowKit

section
variable {w : World} {a : Option Addr} {len cap : Nat} {l x1 v y : List UInt8} {ws : List (List UInt8)} {u n m : Nat}
set_option maxRecDepth 100000 in
set_option maxHeartbeats 4000000 in
theorem rp_decr_yes (h : Bu w a len cap l) (hlen : len ≤ 5000) (hL : lineN l = (x1, (u : Int), 0)) (hx : x1.length ≤ 2048) (hu : u ≤ len) (hw : wordsL x1 = vb_decr :: (ws ++ [t_noreply])) (hn : n = ws.length + 2) (hb : ((n : Int) == 4) = true) (h1 : (1 : Int) < (n : Int)) : Calls Tryd.prog 8 #[.slice a len cap] w fun e w' => ParseEnd (rothersN vb_decr ws true (u : Int)) w e w' := by
  obtain ⟨W0, B⟩ := begS_of w
  have eW := B.eW
  have HL := hide (rline_any (h.on (below_gr B.gr)) (by omega))
  rw [hL] at HL
  simp only [lineV] at HL
  have HWD := hide (refWords_any ⟨x1.toArray⟩ (mk_few hx) W0)
  obtain ⟨hwn, hwl⟩ := words_few hx hw
  have HB := hide B
  have HBu := hide (fun (W : World) (g : w.grownBy W none) => h.on (below_gr g))
  have HM := hide (fun W => rmany_any vb_decr W)
  rw [show rmanyN vb_decr = 3 by decide] at HM
  have HOP := hide (fun W => rop_any vb_decr W)
  rw [show ropN vb_decr = -1 by decide] at HOP
  simp only [vb_decr, mkB] at HM HOP
  have hn0 : ¬ (n : Int) = 0 := by omega
  have hnp : ¬ (n : Int) ≤ 0 := by omega
  obtain ⟨m, hm⟩ : ∃ m, n = m + 1 := ⟨n - 1, by omega⟩
  have eN := last_wrap hm (by simp at hwn; omega)
  have hmn := last_lt hm
  have hm0 : 0 < m := by omega
  have Hm := hide hm
  have HN := hide hn
  have HG := hide (fun (W : World) (b cp : Nat) (hR : Ru W b 0 m cp (vb_decr :: ws)) => rothers_any (q := true) hR (fun z hz => hwl z (List.mem_cons_of_mem _ (List.mem_append_left _ hz))) (by decide) (u : Int))
  clear B h hL hx hlen hu hwl hwn hn hm
  go_enter Tryd.func8, Tryd.ntmps8
  go_wp2_with (first
    | (go_at_call 13; refine HL.out.mono ?_; rintro e w1 ⟨rfl, rfl⟩; clear eW)
    | (go_at_call 15; refine HWD.out.mono ?_; rintro e w2 ⟨vv, rfl, o2, b2⟩; obtain ⟨b, cp, rfl, hb, hR⟩ := words_rn (n := n) o2 hw (by rw [HN.out]; simp); have g2 := gr_of_below b2; have c0 := hR.at0 0 (by simp); simp only [List.getElem_cons_zero, vb_decr, mkB] at c0; have cl := Ru.last (ws := vb_decr :: ws) hR Hm.out; simp only [t_noreply, mkB] at cl; have sl := fun W => slice_til (b := b) (n := n) (m := m) (cap := cp) (by have := Hm.out; omega) hR.c W; have hR2 := hide (Ru.til (ws := vb_decr :: ws) hR Hm.out); replace hb := hide hb; replace g2 := hide g2; clear o2 b2 hR)
    | (go_at_call 18; refine (HM.out _).mono ?_; rintro e w7 ⟨rfl, rfl⟩)
    | (go_at_call 19; refine (HOP.out _).mono ?_; rintro e w3 ⟨rfl, g3⟩; have hR3 := hR2.out.on g3; have G3 := hide (gr_trans g2.out g3); have d0 := hR3.at0 0 (by simp); simp only [List.getElem_cons_zero, vb_decr, mkB] at d0; have HG3 := hide (HG.out w3 b cp hR3); have L3 := hide hR3.lt; clear g3 hR3)
    | (go_at_call 21; refine HG3.out.mono ?_; rintro e w4 R3; obtain ⟨ca, cc, ta, tc, ka, kc, rfl, r4, E4⟩ := rend_parse HB.out hb.out (L3.out) (G3.out) R3; replace r4 := hide r4; replace E4 := hide E4; clear R3)
    | (refine wpList_store_row rfl 34 _ _ rfl w.heap.size (stC (rothersN vb_decr ws true (u : Int)) ca cc ta tc ka kc) rfl rfl _ _ r4.out (step_size _ _ _ _ _ _ _) rfl (step_one _ _ _ _ _ _ _) ?_))
  exact step_ret rfl E4.out.1 rfl rfl E4.out.2
set_option maxRecDepth 100000 in
set_option maxHeartbeats 4000000 in
theorem rp_decr_few (h : Bu w a len cap l) (hlen : len ≤ 5000) (hL : lineN l = (x1, (u : Int), 0)) (hx : x1.length ≤ 2048) (hu : u ≤ len) (hw : wordsL x1 = vb_decr :: ws) (hn : n = ws.length + 1) (hb : ((n : Int) == 4) = false) (h1 : (1 : Int) < (n : Int)) : Calls Tryd.prog 8 #[.slice a len cap] w fun e w' => ParseEnd (rothersN vb_decr ws false (u : Int)) w e w' := by
  obtain ⟨W0, B⟩ := begS_of w
  have eW := B.eW
  have HL := hide (rline_any (h.on (below_gr B.gr)) (by omega))
  rw [hL] at HL
  simp only [lineV] at HL
  have HWD := hide (refWords_any ⟨x1.toArray⟩ (mk_few hx) W0)
  obtain ⟨hwn, hwl⟩ := words_few hx hw
  have HB := hide B
  have HBu := hide (fun (W : World) (g : w.grownBy W none) => h.on (below_gr g))
  have HM := hide (fun W => rmany_any vb_decr W)
  rw [show rmanyN vb_decr = 3 by decide] at HM
  have HOP := hide (fun W => rop_any vb_decr W)
  rw [show ropN vb_decr = -1 by decide] at HOP
  simp only [vb_decr, mkB] at HM HOP
  have hn0 : ¬ (n : Int) = 0 := by omega
  have hnp : ¬ (n : Int) ≤ 0 := by omega
  have HN := hide hn
  have HG := hide (fun (W : World) (b cp : Nat) (hR : Ru W b 0 n cp (vb_decr :: ws)) => rothers_any (q := false) hR (fun z hz => hwl z (List.mem_cons_of_mem _ hz)) (by decide) (u : Int))
  clear B h hL hx hlen hu hwl hwn hn
  go_enter Tryd.func8, Tryd.ntmps8
  go_wp2_with (first
    | (go_at_call 13; refine HL.out.mono ?_; rintro e w1 ⟨rfl, rfl⟩; clear eW)
    | (go_at_call 15; refine HWD.out.mono ?_; rintro e w2 ⟨vv, rfl, o2, b2⟩; obtain ⟨b, cp, rfl, hb, hR⟩ := words_rn (n := n) o2 hw HN.out; have g2 := gr_of_below b2; have c0 := hR.at0 0 (by simp); simp only [List.getElem_cons_zero, vb_decr, mkB] at c0; have hR2 := hide hR; replace hb := hide hb; replace g2 := hide g2; clear o2 b2 hR)
    | (go_at_call 18; refine (HM.out _).mono ?_; rintro e w7 ⟨rfl, rfl⟩)
    | (go_at_call 19; refine (HOP.out _).mono ?_; rintro e w3 ⟨rfl, g3⟩; have hR3 := hR2.out.on g3; have G3 := hide (gr_trans g2.out g3); have d0 := hR3.at0 0 (by simp); simp only [List.getElem_cons_zero, vb_decr, mkB] at d0; have HG3 := hide (HG.out w3 b cp hR3); have L3 := hide hR3.lt; clear g3 hR3)
    | (go_at_call 21; refine HG3.out.mono ?_; rintro e w4 R3; obtain ⟨ca, cc, ta, tc, ka, kc, rfl, r4, E4⟩ := rend_parse HB.out hb.out (L3.out) (G3.out) R3; replace r4 := hide r4; replace E4 := hide E4; clear R3)
    | (refine wpList_store_row rfl 34 _ _ rfl w.heap.size (stC (rothersN vb_decr ws false (u : Int)) ca cc ta tc ka kc) rfl rfl _ _ r4.out (step_size _ _ _ _ _ _ _) rfl (step_one _ _ _ _ _ _ _) ?_))
  exact step_ret rfl E4.out.1 rfl rfl E4.out.2
set_option maxRecDepth 100000 in
set_option maxHeartbeats 4000000 in
theorem rp_decr_one (h : Bu w a len cap l) (hlen : len ≤ 5000) (hL : lineN l = (x1, (u : Int), 0)) (hx : x1.length ≤ 2048) (hu : u ≤ len) (hw : wordsL x1 = vb_decr :: ws) (hn : n = ws.length + 1) (hb : ((n : Int) == 4) = false) (h1 : ¬ (1 : Int) < (n : Int)) : Calls Tryd.prog 8 #[.slice a len cap] w fun e w' => ParseEnd (rothersN vb_decr ws false (u : Int)) w e w' := by
  obtain ⟨W0, B⟩ := begS_of w
  have eW := B.eW
  have HL := hide (rline_any (h.on (below_gr B.gr)) (by omega))
  rw [hL] at HL
  simp only [lineV] at HL
  have HWD := hide (refWords_any ⟨x1.toArray⟩ (mk_few hx) W0)
  obtain ⟨hwn, hwl⟩ := words_few hx hw
  have HB := hide B
  have HBu := hide (fun (W : World) (g : w.grownBy W none) => h.on (below_gr g))
  have HM := hide (fun W => rmany_any vb_decr W)
  rw [show rmanyN vb_decr = 3 by decide] at HM
  have HOP := hide (fun W => rop_any vb_decr W)
  rw [show ropN vb_decr = -1 by decide] at HOP
  simp only [vb_decr, mkB] at HM HOP
  have hn0 : ¬ (n : Int) = 0 := by omega
  have hnp : ¬ (n : Int) ≤ 0 := by omega
  have HN := hide hn
  have HG := hide (fun (W : World) (b cp : Nat) (hR : Ru W b 0 n cp (vb_decr :: ws)) => rothers_any (q := false) hR (fun z hz => hwl z (List.mem_cons_of_mem _ hz)) (by decide) (u : Int))
  clear B h hL hx hlen hu hwl hwn hn
  go_enter Tryd.func8, Tryd.ntmps8
  go_wp2_with (first
    | (go_at_call 13; refine HL.out.mono ?_; rintro e w1 ⟨rfl, rfl⟩; clear eW)
    | (go_at_call 15; refine HWD.out.mono ?_; rintro e w2 ⟨vv, rfl, o2, b2⟩; obtain ⟨b, cp, rfl, hb, hR⟩ := words_rn (n := n) o2 hw HN.out; have g2 := gr_of_below b2; have c0 := hR.at0 0 (by simp); simp only [List.getElem_cons_zero, vb_decr, mkB] at c0; have hR2 := hide hR; replace hb := hide hb; replace g2 := hide g2; clear o2 b2 hR)
    | (go_at_call 18; refine (HM.out _).mono ?_; rintro e w7 ⟨rfl, rfl⟩)
    | (go_at_call 19; refine (HOP.out _).mono ?_; rintro e w3 ⟨rfl, g3⟩; have hR3 := hR2.out.on g3; have G3 := hide (gr_trans g2.out g3); have d0 := hR3.at0 0 (by simp); simp only [List.getElem_cons_zero, vb_decr, mkB] at d0; have HG3 := hide (HG.out w3 b cp hR3); have L3 := hide hR3.lt; clear g3 hR3)
    | (go_at_call 21; refine HG3.out.mono ?_; rintro e w4 R3; obtain ⟨ca, cc, ta, tc, ka, kc, rfl, r4, E4⟩ := rend_parse HB.out hb.out (L3.out) (G3.out) R3; replace r4 := hide r4; replace E4 := hide E4; clear R3)
    | (refine wpList_store_row rfl 34 _ _ rfl w.heap.size (stC (rothersN vb_decr ws false (u : Int)) ca cc ta tc ka kc) rfl rfl _ _ r4.out (step_size _ _ _ _ _ _ _) rfl (step_one _ _ _ _ _ _ _) ?_))
  exact step_ret rfl E4.out.1 rfl rfl E4.out.2
set_option maxRecDepth 100000 in
set_option maxHeartbeats 4000000 in
theorem rp_decr_last (h : Bu w a len cap l) (hlen : len ≤ 5000) (hL : lineN l = (x1, (u : Int), 0)) (hx : x1.length ≤ 2048) (hu : u ≤ len) (hw : wordsL x1 = vb_decr :: (ws ++ [y])) (hn : n = ws.length + 2) (hb : ((n : Int) == 4) = true) (h1 : (1 : Int) < (n : Int)) (hy : (y == t_noreply) = false) : Calls Tryd.prog 8 #[.slice a len cap] w fun e w' => ParseEnd (rothersN vb_decr (ws ++ [y]) false (u : Int)) w e w' := by
  obtain ⟨W0, B⟩ := begS_of w
  have eW := B.eW
  have HL := hide (rline_any (h.on (below_gr B.gr)) (by omega))
  rw [hL] at HL
  simp only [lineV] at HL
  have HWD := hide (refWords_any ⟨x1.toArray⟩ (mk_few hx) W0)
  obtain ⟨hwn, hwl⟩ := words_few hx hw
  have HB := hide B
  have HBu := hide (fun (W : World) (g : w.grownBy W none) => h.on (below_gr g))
  simp only [t_noreply] at hy
  have HM := hide (fun W => rmany_any vb_decr W)
  rw [show rmanyN vb_decr = 3 by decide] at HM
  have HOP := hide (fun W => rop_any vb_decr W)
  rw [show ropN vb_decr = -1 by decide] at HOP
  simp only [vb_decr, mkB] at HM HOP
  have hn0 : ¬ (n : Int) = 0 := by omega
  have hnp : ¬ (n : Int) ≤ 0 := by omega
  obtain ⟨m, hm⟩ : ∃ m, n = m + 1 := ⟨n - 1, by omega⟩
  have eN := last_wrap hm (by simp at hwn; omega)
  have hmn := last_lt hm
  have hm0 : 0 < m := by omega
  have Hm := hide hm
  have HN := hide hn
  have HG := hide (fun (W : World) (b cp : Nat) (hR : Ru W b 0 n cp (vb_decr :: (ws ++ [y]))) => rothers_any (q := false) hR (fun z hz => hwl z (List.mem_cons_of_mem _ hz)) (by decide) (u : Int))
  clear B h hL hx hlen hu hwl hwn hn hm
  go_enter Tryd.func8, Tryd.ntmps8
  go_wp2_with (first
    | (go_at_call 13; refine HL.out.mono ?_; rintro e w1 ⟨rfl, rfl⟩; clear eW)
    | (go_at_call 15; refine HWD.out.mono ?_; rintro e w2 ⟨vv, rfl, o2, b2⟩; obtain ⟨b, cp, rfl, hb, hR⟩ := words_rn (n := n) o2 hw (by rw [HN.out]; simp); have g2 := gr_of_below b2; have c0 := hR.at0 0 (by simp); simp only [List.getElem_cons_zero, vb_decr, mkB] at c0; have cl := Ru.last (ws := vb_decr :: ws) hR Hm.out; simp only [mkB] at cl; have hR2 := hide hR; replace hb := hide hb; replace g2 := hide g2; clear o2 b2 hR)
    | (go_at_call 18; refine (HM.out _).mono ?_; rintro e w7 ⟨rfl, rfl⟩)
    | (go_at_call 19; refine (HOP.out _).mono ?_; rintro e w3 ⟨rfl, g3⟩; have hR3 := hR2.out.on g3; have G3 := hide (gr_trans g2.out g3); have d0 := hR3.at0 0 (by simp); simp only [List.getElem_cons_zero, vb_decr, mkB] at d0; have HG3 := hide (HG.out w3 b cp hR3); have L3 := hide hR3.lt; clear g3 hR3)
    | (go_at_call 21; refine HG3.out.mono ?_; rintro e w4 R3; obtain ⟨ca, cc, ta, tc, ka, kc, rfl, r4, E4⟩ := rend_parse HB.out hb.out (L3.out) (G3.out) R3; replace r4 := hide r4; replace E4 := hide E4; clear R3)
    | (refine wpList_store_row rfl 34 _ _ rfl w.heap.size (stC (rothersN vb_decr (ws ++ [y]) false (u : Int)) ca cc ta tc ka kc) rfl rfl _ _ r4.out (step_size _ _ _ _ _ _ _) rfl (step_one _ _ _ _ _ _ _) ?_))
  exact step_ret rfl E4.out.1 rfl rfl E4.out.2
set_option maxRecDepth 100000 in
set_option maxHeartbeats 4000000 in
theorem rp_touch_yes (h : Bu w a len cap l) (hlen : len ≤ 5000) (hL : lineN l = (x1, (u : Int), 0)) (hx : x1.length ≤ 2048) (hu : u ≤ len) (hw : wordsL x1 = vb_touch :: (ws ++ [t_noreply])) (hn : n = ws.length + 2) (hb : ((n : Int) == 4) = true) (h1 : (1 : Int) < (n : Int)) : Calls Tryd.prog 8 #[.slice a len cap] w fun e w' => ParseEnd (rothersN vb_touch ws true (u : Int)) w e w' := by
  obtain ⟨W0, B⟩ := begS_of w
  have eW := B.eW
  have HL := hide (rline_any (h.on (below_gr B.gr)) (by omega))
  rw [hL] at HL
  simp only [lineV] at HL
  have HWD := hide (refWords_any ⟨x1.toArray⟩ (mk_few hx) W0)
  obtain ⟨hwn, hwl⟩ := words_few hx hw
  have HB := hide B
  have HBu := hide (fun (W : World) (g : w.grownBy W none) => h.on (below_gr g))
  have HM := hide (fun W => rmany_any vb_touch W)
  rw [show rmanyN vb_touch = 3 by decide] at HM
  have HOP := hide (fun W => rop_any vb_touch W)
  rw [show ropN vb_touch = -1 by decide] at HOP
  simp only [vb_touch, mkB] at HM HOP
  have hn0 : ¬ (n : Int) = 0 := by omega
  have hnp : ¬ (n : Int) ≤ 0 := by omega
  obtain ⟨m, hm⟩ : ∃ m, n = m + 1 := ⟨n - 1, by omega⟩
  have eN := last_wrap hm (by simp at hwn; omega)
  have hmn := last_lt hm
  have hm0 : 0 < m := by omega
  have Hm := hide hm
  have HN := hide hn
  have HG := hide (fun (W : World) (b cp : Nat) (hR : Ru W b 0 m cp (vb_touch :: ws)) => rothers_any (q := true) hR (fun z hz => hwl z (List.mem_cons_of_mem _ (List.mem_append_left _ hz))) (by decide) (u : Int))
  clear B h hL hx hlen hu hwl hwn hn hm
  go_enter Tryd.func8, Tryd.ntmps8
  go_wp2_with (first
    | (go_at_call 13; refine HL.out.mono ?_; rintro e w1 ⟨rfl, rfl⟩; clear eW)
    | (go_at_call 15; refine HWD.out.mono ?_; rintro e w2 ⟨vv, rfl, o2, b2⟩; obtain ⟨b, cp, rfl, hb, hR⟩ := words_rn (n := n) o2 hw (by rw [HN.out]; simp); have g2 := gr_of_below b2; have c0 := hR.at0 0 (by simp); simp only [List.getElem_cons_zero, vb_touch, mkB] at c0; have cl := Ru.last (ws := vb_touch :: ws) hR Hm.out; simp only [t_noreply, mkB] at cl; have sl := fun W => slice_til (b := b) (n := n) (m := m) (cap := cp) (by have := Hm.out; omega) hR.c W; have hR2 := hide (Ru.til (ws := vb_touch :: ws) hR Hm.out); replace hb := hide hb; replace g2 := hide g2; clear o2 b2 hR)
    | (go_at_call 18; refine (HM.out _).mono ?_; rintro e w7 ⟨rfl, rfl⟩)
    | (go_at_call 19; refine (HOP.out _).mono ?_; rintro e w3 ⟨rfl, g3⟩; have hR3 := hR2.out.on g3; have G3 := hide (gr_trans g2.out g3); have d0 := hR3.at0 0 (by simp); simp only [List.getElem_cons_zero, vb_touch, mkB] at d0; have HG3 := hide (HG.out w3 b cp hR3); have L3 := hide hR3.lt; clear g3 hR3)
    | (go_at_call 21; refine HG3.out.mono ?_; rintro e w4 R3; obtain ⟨ca, cc, ta, tc, ka, kc, rfl, r4, E4⟩ := rend_parse HB.out hb.out (L3.out) (G3.out) R3; replace r4 := hide r4; replace E4 := hide E4; clear R3)
    | (refine wpList_store_row rfl 34 _ _ rfl w.heap.size (stC (rothersN vb_touch ws true (u : Int)) ca cc ta tc ka kc) rfl rfl _ _ r4.out (step_size _ _ _ _ _ _ _) rfl (step_one _ _ _ _ _ _ _) ?_))
  exact step_ret rfl E4.out.1 rfl rfl E4.out.2
set_option maxRecDepth 100000 in
set_option maxHeartbeats 4000000 in
theorem rp_touch_few (h : Bu w a len cap l) (hlen : len ≤ 5000) (hL : lineN l = (x1, (u : Int), 0)) (hx : x1.length ≤ 2048) (hu : u ≤ len) (hw : wordsL x1 = vb_touch :: ws) (hn : n = ws.length + 1) (hb : ((n : Int) == 4) = false) (h1 : (1 : Int) < (n : Int)) : Calls Tryd.prog 8 #[.slice a len cap] w fun e w' => ParseEnd (rothersN vb_touch ws false (u : Int)) w e w' := by
  obtain ⟨W0, B⟩ := begS_of w
  have eW := B.eW
  have HL := hide (rline_any (h.on (below_gr B.gr)) (by omega))
  rw [hL] at HL
  simp only [lineV] at HL
  have HWD := hide (refWords_any ⟨x1.toArray⟩ (mk_few hx) W0)
  obtain ⟨hwn, hwl⟩ := words_few hx hw
  have HB := hide B
  have HBu := hide (fun (W : World) (g : w.grownBy W none) => h.on (below_gr g))
  have HM := hide (fun W => rmany_any vb_touch W)
  rw [show rmanyN vb_touch = 3 by decide] at HM
  have HOP := hide (fun W => rop_any vb_touch W)
  rw [show ropN vb_touch = -1 by decide] at HOP
  simp only [vb_touch, mkB] at HM HOP
  have hn0 : ¬ (n : Int) = 0 := by omega
  have hnp : ¬ (n : Int) ≤ 0 := by omega
  have HN := hide hn
  have HG := hide (fun (W : World) (b cp : Nat) (hR : Ru W b 0 n cp (vb_touch :: ws)) => rothers_any (q := false) hR (fun z hz => hwl z (List.mem_cons_of_mem _ hz)) (by decide) (u : Int))
  clear B h hL hx hlen hu hwl hwn hn
  go_enter Tryd.func8, Tryd.ntmps8
  go_wp2_with (first
    | (go_at_call 13; refine HL.out.mono ?_; rintro e w1 ⟨rfl, rfl⟩; clear eW)
    | (go_at_call 15; refine HWD.out.mono ?_; rintro e w2 ⟨vv, rfl, o2, b2⟩; obtain ⟨b, cp, rfl, hb, hR⟩ := words_rn (n := n) o2 hw HN.out; have g2 := gr_of_below b2; have c0 := hR.at0 0 (by simp); simp only [List.getElem_cons_zero, vb_touch, mkB] at c0; have hR2 := hide hR; replace hb := hide hb; replace g2 := hide g2; clear o2 b2 hR)
    | (go_at_call 18; refine (HM.out _).mono ?_; rintro e w7 ⟨rfl, rfl⟩)
    | (go_at_call 19; refine (HOP.out _).mono ?_; rintro e w3 ⟨rfl, g3⟩; have hR3 := hR2.out.on g3; have G3 := hide (gr_trans g2.out g3); have d0 := hR3.at0 0 (by simp); simp only [List.getElem_cons_zero, vb_touch, mkB] at d0; have HG3 := hide (HG.out w3 b cp hR3); have L3 := hide hR3.lt; clear g3 hR3)
    | (go_at_call 21; refine HG3.out.mono ?_; rintro e w4 R3; obtain ⟨ca, cc, ta, tc, ka, kc, rfl, r4, E4⟩ := rend_parse HB.out hb.out (L3.out) (G3.out) R3; replace r4 := hide r4; replace E4 := hide E4; clear R3)
    | (refine wpList_store_row rfl 34 _ _ rfl w.heap.size (stC (rothersN vb_touch ws false (u : Int)) ca cc ta tc ka kc) rfl rfl _ _ r4.out (step_size _ _ _ _ _ _ _) rfl (step_one _ _ _ _ _ _ _) ?_))
  exact step_ret rfl E4.out.1 rfl rfl E4.out.2
set_option maxRecDepth 100000 in
set_option maxHeartbeats 4000000 in
theorem rp_touch_one (h : Bu w a len cap l) (hlen : len ≤ 5000) (hL : lineN l = (x1, (u : Int), 0)) (hx : x1.length ≤ 2048) (hu : u ≤ len) (hw : wordsL x1 = vb_touch :: ws) (hn : n = ws.length + 1) (hb : ((n : Int) == 4) = false) (h1 : ¬ (1 : Int) < (n : Int)) : Calls Tryd.prog 8 #[.slice a len cap] w fun e w' => ParseEnd (rothersN vb_touch ws false (u : Int)) w e w' := by
  obtain ⟨W0, B⟩ := begS_of w
  have eW := B.eW
  have HL := hide (rline_any (h.on (below_gr B.gr)) (by omega))
  rw [hL] at HL
  simp only [lineV] at HL
  have HWD := hide (refWords_any ⟨x1.toArray⟩ (mk_few hx) W0)
  obtain ⟨hwn, hwl⟩ := words_few hx hw
  have HB := hide B
  have HBu := hide (fun (W : World) (g : w.grownBy W none) => h.on (below_gr g))
  have HM := hide (fun W => rmany_any vb_touch W)
  rw [show rmanyN vb_touch = 3 by decide] at HM
  have HOP := hide (fun W => rop_any vb_touch W)
  rw [show ropN vb_touch = -1 by decide] at HOP
  simp only [vb_touch, mkB] at HM HOP
  have hn0 : ¬ (n : Int) = 0 := by omega
  have hnp : ¬ (n : Int) ≤ 0 := by omega
  have HN := hide hn
  have HG := hide (fun (W : World) (b cp : Nat) (hR : Ru W b 0 n cp (vb_touch :: ws)) => rothers_any (q := false) hR (fun z hz => hwl z (List.mem_cons_of_mem _ hz)) (by decide) (u : Int))
  clear B h hL hx hlen hu hwl hwn hn
  go_enter Tryd.func8, Tryd.ntmps8
  go_wp2_with (first
    | (go_at_call 13; refine HL.out.mono ?_; rintro e w1 ⟨rfl, rfl⟩; clear eW)
    | (go_at_call 15; refine HWD.out.mono ?_; rintro e w2 ⟨vv, rfl, o2, b2⟩; obtain ⟨b, cp, rfl, hb, hR⟩ := words_rn (n := n) o2 hw HN.out; have g2 := gr_of_below b2; have c0 := hR.at0 0 (by simp); simp only [List.getElem_cons_zero, vb_touch, mkB] at c0; have hR2 := hide hR; replace hb := hide hb; replace g2 := hide g2; clear o2 b2 hR)
    | (go_at_call 18; refine (HM.out _).mono ?_; rintro e w7 ⟨rfl, rfl⟩)
    | (go_at_call 19; refine (HOP.out _).mono ?_; rintro e w3 ⟨rfl, g3⟩; have hR3 := hR2.out.on g3; have G3 := hide (gr_trans g2.out g3); have d0 := hR3.at0 0 (by simp); simp only [List.getElem_cons_zero, vb_touch, mkB] at d0; have HG3 := hide (HG.out w3 b cp hR3); have L3 := hide hR3.lt; clear g3 hR3)
    | (go_at_call 21; refine HG3.out.mono ?_; rintro e w4 R3; obtain ⟨ca, cc, ta, tc, ka, kc, rfl, r4, E4⟩ := rend_parse HB.out hb.out (L3.out) (G3.out) R3; replace r4 := hide r4; replace E4 := hide E4; clear R3)
    | (refine wpList_store_row rfl 34 _ _ rfl w.heap.size (stC (rothersN vb_touch ws false (u : Int)) ca cc ta tc ka kc) rfl rfl _ _ r4.out (step_size _ _ _ _ _ _ _) rfl (step_one _ _ _ _ _ _ _) ?_))
  exact step_ret rfl E4.out.1 rfl rfl E4.out.2
set_option maxRecDepth 100000 in
set_option maxHeartbeats 4000000 in
theorem rp_touch_last (h : Bu w a len cap l) (hlen : len ≤ 5000) (hL : lineN l = (x1, (u : Int), 0)) (hx : x1.length ≤ 2048) (hu : u ≤ len) (hw : wordsL x1 = vb_touch :: (ws ++ [y])) (hn : n = ws.length + 2) (hb : ((n : Int) == 4) = true) (h1 : (1 : Int) < (n : Int)) (hy : (y == t_noreply) = false) : Calls Tryd.prog 8 #[.slice a len cap] w fun e w' => ParseEnd (rothersN vb_touch (ws ++ [y]) false (u : Int)) w e w' := by
  obtain ⟨W0, B⟩ := begS_of w
  have eW := B.eW
  have HL := hide (rline_any (h.on (below_gr B.gr)) (by omega))
  rw [hL] at HL
  simp only [lineV] at HL
  have HWD := hide (refWords_any ⟨x1.toArray⟩ (mk_few hx) W0)
  obtain ⟨hwn, hwl⟩ := words_few hx hw
  have HB := hide B
  have HBu := hide (fun (W : World) (g : w.grownBy W none) => h.on (below_gr g))
  simp only [t_noreply] at hy
  have HM := hide (fun W => rmany_any vb_touch W)
  rw [show rmanyN vb_touch = 3 by decide] at HM
  have HOP := hide (fun W => rop_any vb_touch W)
  rw [show ropN vb_touch = -1 by decide] at HOP
  simp only [vb_touch, mkB] at HM HOP
  have hn0 : ¬ (n : Int) = 0 := by omega
  have hnp : ¬ (n : Int) ≤ 0 := by omega
  obtain ⟨m, hm⟩ : ∃ m, n = m + 1 := ⟨n - 1, by omega⟩
  have eN := last_wrap hm (by simp at hwn; omega)
  have hmn := last_lt hm
  have hm0 : 0 < m := by omega
  have Hm := hide hm
  have HN := hide hn
  have HG := hide (fun (W : World) (b cp : Nat) (hR : Ru W b 0 n cp (vb_touch :: (ws ++ [y]))) => rothers_any (q := false) hR (fun z hz => hwl z (List.mem_cons_of_mem _ hz)) (by decide) (u : Int))
  clear B h hL hx hlen hu hwl hwn hn hm
  go_enter Tryd.func8, Tryd.ntmps8
  go_wp2_with (first
    | (go_at_call 13; refine HL.out.mono ?_; rintro e w1 ⟨rfl, rfl⟩; clear eW)
    | (go_at_call 15; refine HWD.out.mono ?_; rintro e w2 ⟨vv, rfl, o2, b2⟩; obtain ⟨b, cp, rfl, hb, hR⟩ := words_rn (n := n) o2 hw (by rw [HN.out]; simp); have g2 := gr_of_below b2; have c0 := hR.at0 0 (by simp); simp only [List.getElem_cons_zero, vb_touch, mkB] at c0; have cl := Ru.last (ws := vb_touch :: ws) hR Hm.out; simp only [mkB] at cl; have hR2 := hide hR; replace hb := hide hb; replace g2 := hide g2; clear o2 b2 hR)
    | (go_at_call 18; refine (HM.out _).mono ?_; rintro e w7 ⟨rfl, rfl⟩)
    | (go_at_call 19; refine (HOP.out _).mono ?_; rintro e w3 ⟨rfl, g3⟩; have hR3 := hR2.out.on g3; have G3 := hide (gr_trans g2.out g3); have d0 := hR3.at0 0 (by simp); simp only [List.getElem_cons_zero, vb_touch, mkB] at d0; have HG3 := hide (HG.out w3 b cp hR3); have L3 := hide hR3.lt; clear g3 hR3)
    | (go_at_call 21; refine HG3.out.mono ?_; rintro e w4 R3; obtain ⟨ca, cc, ta, tc, ka, kc, rfl, r4, E4⟩ := rend_parse HB.out hb.out (L3.out) (G3.out) R3; replace r4 := hide r4; replace E4 := hide E4; clear R3)
    | (refine wpList_store_row rfl 34 _ _ rfl w.heap.size (stC (rothersN vb_touch (ws ++ [y]) false (u : Int)) ca cc ta tc ka kc) rfl rfl _ _ r4.out (step_size _ _ _ _ _ _ _) rfl (step_one _ _ _ _ _ _ _) ?_))
  exact step_ret rfl E4.out.1 rfl rfl E4.out.2
end
end Go.Proofs.YtfcmnkhfmofioaaDoor
