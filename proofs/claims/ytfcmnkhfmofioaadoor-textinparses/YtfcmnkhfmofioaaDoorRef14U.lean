/- The document's own Parse of the text dialect: its first words. Conditions: at most 5000 bytes. -/
import Derived.Test.YtfcmnkhfmofioaaDoorRef14T
namespace Go.Proofs.YtfcmnkhfmofioaaDoor
set_option linter.unusedVariables false
set_option linter.unusedSimpArgs false
open Go.RowKit

section
variable {w : World} {a : Option Addr} {len cap : Nat} {l x1 v y : List UInt8} {ws : List (List UInt8)} {u n m : Nat}
set_option maxRecDepth 100000 in
set_option maxHeartbeats 4000000 in
theorem rp_none (h : Bu w a len cap l) (hlen : len ≤ 5000) (hL : lineN l = (x1, (u : Int), 0)) (hx : x1.length ≤ 2048) (hu : u ≤ len) (hw : wordsL x1 = []) : Calls Tryd.prog 8 #[.slice a len cap] w fun e w' => ParseEnd (refuseS t_ERROR (u : Int)) w e w' := by
  obtain ⟨W0, B⟩ := begS_of w
  have eW := B.eW
  have HL := hide (rline_any (h.on (below_gr B.gr)) (by omega))
  rw [hL] at HL
  simp only [lineV] at HL
  have HWD := hide (refWords_any ⟨x1.toArray⟩ (mk_few hx) W0)
  have HB := hide B
  have HBu := hide (fun (W : World) (g : w.grownBy W none) => h.on (below_gr g))
  have HF := hide (fun W => rfault_any t_ERROR (by decide) (u : Int) W)
  simp only [t_ERROR, mkB] at HF
  clear B h hL hx hlen hu
  go_enter Tryd.func8, Tryd.ntmps8
  go_wp2_with (first
    | (go_at_call 13; refine HL.out.mono ?_; rintro e w1 ⟨rfl, rfl⟩; clear eW)
    | (go_at_call 15; refine HWD.out.mono ?_; rintro e w2 ⟨vv, rfl, o2, b2⟩; obtain ⟨wa, wc, rfl⟩ := words_no o2 hw; have g2 := hide (gr_of_below b2); clear o2 b2)
    | (go_at_call 14; refine (HF.out _).mono ?_; rintro e w3 ⟨rfl, g3⟩; obtain ⟨r3, E3⟩ := bare_parse (s := refuseS t_ERROR (u : Int)) HB.out rfl (gr_trans g2.out g3); replace r3 := hide r3; replace E3 := hide E3; clear g3)
    | (refine wpList_store_row rfl 34 _ _ rfl w.heap.size (stC (refuseS t_ERROR (u : Int)) none 0 none 0 none 0) rfl rfl _ _ r3.out (step_size _ _ _ _ _ _ _) rfl (step_one _ _ _ _ _ _ _) ?_))
  exact step_ret rfl E3.out.1 rfl rfl E3.out.2
set_option maxRecDepth 100000 in
set_option maxHeartbeats 4000000 in
theorem rp_get (h : Bu w a len cap l) (hlen : len ≤ 5000) (hL : lineN l = (x1, (u : Int), 0)) (hx : x1.length ≤ 2048) (hu : u ≤ len) (hw : wordsL x1 = vb_get :: ws) : Calls Tryd.prog 8 #[.slice a len cap] w fun e w' => ParseEnd (rgetsN vb_get ws (u : Int)) w e w' := by
  obtain ⟨W0, B⟩ := begS_of w
  have eW := B.eW
  have HL := hide (rline_any (h.on (below_gr B.gr)) (by omega))
  rw [hL] at HL
  simp only [lineV] at HL
  have HWD := hide (refWords_any ⟨x1.toArray⟩ (mk_few hx) W0)
  obtain ⟨hwn, hwl⟩ := words_few hx hw
  have HB := hide B
  have HBu := hide (fun (W : World) (g : w.grownBy W none) => h.on (below_gr g))
  have HG := hide (fun (W : World) (b cp : Nat) (hR : Ru W b 0 (ws.length + 1) cp (vb_get :: ws)) => rgets_any hR (fun y hy => hwl y (List.mem_cons_of_mem _ hy)) (by omega) (by decide) (u : Int))
  have hn0 : ¬ ((ws.length : Int) + 1 = 0) := by omega
  have hn1 : ¬ ((ws.length : Int) + 1 ≤ 0) := by omega
  clear B h hL hx hlen hu hwl hwn
  go_enter Tryd.func8, Tryd.ntmps8
  go_wp2_with (first
    | (go_at_call 13; refine HL.out.mono ?_; rintro e w1 ⟨rfl, rfl⟩; clear eW)
    | (go_at_call 15; refine HWD.out.mono ?_; rintro e w2 ⟨vv, rfl, o2, b2⟩; obtain ⟨b, cp, rfl, hb, hR⟩ := words_ru o2 hw; have g2 := gr_of_below b2; have c0 := hR.at0 0 (by simp); simp only [List.getElem_cons_zero, vb_get, mkB] at c0; have HG2 := hide (HG.out w2 b cp hR); replace hb := hide hb; replace hR := hide hR; replace g2 := hide g2; clear o2 b2)
    | (go_at_call 16; refine HG2.out.mono ?_; rintro e w3 R3; obtain ⟨ca, cc, ta, tc, ka, kc, rfl, r4, E4⟩ := rend_parse HB.out hb.out (hR.out.lt) (g2.out) R3; replace r4 := hide r4; replace E4 := hide E4; clear R3)
    | (refine wpList_store_row rfl 34 _ _ rfl w.heap.size (stC (rgetsN vb_get ws (u : Int)) ca cc ta tc ka kc) rfl rfl _ _ r4.out (step_size _ _ _ _ _ _ _) rfl (step_one _ _ _ _ _ _ _) ?_))
  exact step_ret rfl E4.out.1 rfl rfl E4.out.2
set_option maxRecDepth 100000 in
set_option maxHeartbeats 4000000 in
theorem rp_gets (h : Bu w a len cap l) (hlen : len ≤ 5000) (hL : lineN l = (x1, (u : Int), 0)) (hx : x1.length ≤ 2048) (hu : u ≤ len) (hw : wordsL x1 = vb_gets :: ws) : Calls Tryd.prog 8 #[.slice a len cap] w fun e w' => ParseEnd (rgetsN vb_gets ws (u : Int)) w e w' := by
  obtain ⟨W0, B⟩ := begS_of w
  have eW := B.eW
  have HL := hide (rline_any (h.on (below_gr B.gr)) (by omega))
  rw [hL] at HL
  simp only [lineV] at HL
  have HWD := hide (refWords_any ⟨x1.toArray⟩ (mk_few hx) W0)
  obtain ⟨hwn, hwl⟩ := words_few hx hw
  have HB := hide B
  have HBu := hide (fun (W : World) (g : w.grownBy W none) => h.on (below_gr g))
  have HG := hide (fun (W : World) (b cp : Nat) (hR : Ru W b 0 (ws.length + 1) cp (vb_gets :: ws)) => rgets_any hR (fun y hy => hwl y (List.mem_cons_of_mem _ hy)) (by omega) (by decide) (u : Int))
  have hn0 : ¬ ((ws.length : Int) + 1 = 0) := by omega
  have hn1 : ¬ ((ws.length : Int) + 1 ≤ 0) := by omega
  clear B h hL hx hlen hu hwl hwn
  go_enter Tryd.func8, Tryd.ntmps8
  go_wp2_with (first
    | (go_at_call 13; refine HL.out.mono ?_; rintro e w1 ⟨rfl, rfl⟩; clear eW)
    | (go_at_call 15; refine HWD.out.mono ?_; rintro e w2 ⟨vv, rfl, o2, b2⟩; obtain ⟨b, cp, rfl, hb, hR⟩ := words_ru o2 hw; have g2 := gr_of_below b2; have c0 := hR.at0 0 (by simp); simp only [List.getElem_cons_zero, vb_gets, mkB] at c0; have HG2 := hide (HG.out w2 b cp hR); replace hb := hide hb; replace hR := hide hR; replace g2 := hide g2; clear o2 b2)
    | (go_at_call 16; refine HG2.out.mono ?_; rintro e w3 R3; obtain ⟨ca, cc, ta, tc, ka, kc, rfl, r4, E4⟩ := rend_parse HB.out hb.out (hR.out.lt) (g2.out) R3; replace r4 := hide r4; replace E4 := hide E4; clear R3)
    | (refine wpList_store_row rfl 34 _ _ rfl w.heap.size (stC (rgetsN vb_gets ws (u : Int)) ca cc ta tc ka kc) rfl rfl _ _ r4.out (step_size _ _ _ _ _ _ _) rfl (step_one _ _ _ _ _ _ _) ?_))
  exact step_ret rfl E4.out.1 rfl rfl E4.out.2
set_option maxRecDepth 100000 in
set_option maxHeartbeats 4000000 in
theorem rp_gat (h : Bu w a len cap l) (hlen : len ≤ 5000) (hL : lineN l = (x1, (u : Int), 0)) (hx : x1.length ≤ 2048) (hu : u ≤ len) (hw : wordsL x1 = vb_gat :: ws) : Calls Tryd.prog 8 #[.slice a len cap] w fun e w' => ParseEnd (rgetsN vb_gat ws (u : Int)) w e w' := by
  obtain ⟨W0, B⟩ := begS_of w
  have eW := B.eW
  have HL := hide (rline_any (h.on (below_gr B.gr)) (by omega))
  rw [hL] at HL
  simp only [lineV] at HL
  have HWD := hide (refWords_any ⟨x1.toArray⟩ (mk_few hx) W0)
  obtain ⟨hwn, hwl⟩ := words_few hx hw
  have HB := hide B
  have HBu := hide (fun (W : World) (g : w.grownBy W none) => h.on (below_gr g))
  have HG := hide (fun (W : World) (b cp : Nat) (hR : Ru W b 0 (ws.length + 1) cp (vb_gat :: ws)) => rgets_any hR (fun y hy => hwl y (List.mem_cons_of_mem _ hy)) (by omega) (by decide) (u : Int))
  have hn0 : ¬ ((ws.length : Int) + 1 = 0) := by omega
  have hn1 : ¬ ((ws.length : Int) + 1 ≤ 0) := by omega
  clear B h hL hx hlen hu hwl hwn
  go_enter Tryd.func8, Tryd.ntmps8
  go_wp2_with (first
    | (go_at_call 13; refine HL.out.mono ?_; rintro e w1 ⟨rfl, rfl⟩; clear eW)
    | (go_at_call 15; refine HWD.out.mono ?_; rintro e w2 ⟨vv, rfl, o2, b2⟩; obtain ⟨b, cp, rfl, hb, hR⟩ := words_ru o2 hw; have g2 := gr_of_below b2; have c0 := hR.at0 0 (by simp); simp only [List.getElem_cons_zero, vb_gat, mkB] at c0; have HG2 := hide (HG.out w2 b cp hR); replace hb := hide hb; replace hR := hide hR; replace g2 := hide g2; clear o2 b2)
    | (go_at_call 16; refine HG2.out.mono ?_; rintro e w3 R3; obtain ⟨ca, cc, ta, tc, ka, kc, rfl, r4, E4⟩ := rend_parse HB.out hb.out (hR.out.lt) (g2.out) R3; replace r4 := hide r4; replace E4 := hide E4; clear R3)
    | (refine wpList_store_row rfl 34 _ _ rfl w.heap.size (stC (rgetsN vb_gat ws (u : Int)) ca cc ta tc ka kc) rfl rfl _ _ r4.out (step_size _ _ _ _ _ _ _) rfl (step_one _ _ _ _ _ _ _) ?_))
  exact step_ret rfl E4.out.1 rfl rfl E4.out.2
set_option maxRecDepth 100000 in
set_option maxHeartbeats 4000000 in
theorem rp_gats (h : Bu w a len cap l) (hlen : len ≤ 5000) (hL : lineN l = (x1, (u : Int), 0)) (hx : x1.length ≤ 2048) (hu : u ≤ len) (hw : wordsL x1 = vb_gats :: ws) : Calls Tryd.prog 8 #[.slice a len cap] w fun e w' => ParseEnd (rgetsN vb_gats ws (u : Int)) w e w' := by
  obtain ⟨W0, B⟩ := begS_of w
  have eW := B.eW
  have HL := hide (rline_any (h.on (below_gr B.gr)) (by omega))
  rw [hL] at HL
  simp only [lineV] at HL
  have HWD := hide (refWords_any ⟨x1.toArray⟩ (mk_few hx) W0)
  obtain ⟨hwn, hwl⟩ := words_few hx hw
  have HB := hide B
  have HBu := hide (fun (W : World) (g : w.grownBy W none) => h.on (below_gr g))
  have HG := hide (fun (W : World) (b cp : Nat) (hR : Ru W b 0 (ws.length + 1) cp (vb_gats :: ws)) => rgets_any hR (fun y hy => hwl y (List.mem_cons_of_mem _ hy)) (by omega) (by decide) (u : Int))
  have hn0 : ¬ ((ws.length : Int) + 1 = 0) := by omega
  have hn1 : ¬ ((ws.length : Int) + 1 ≤ 0) := by omega
  clear B h hL hx hlen hu hwl hwn
  go_enter Tryd.func8, Tryd.ntmps8
  go_wp2_with (first
    | (go_at_call 13; refine HL.out.mono ?_; rintro e w1 ⟨rfl, rfl⟩; clear eW)
    | (go_at_call 15; refine HWD.out.mono ?_; rintro e w2 ⟨vv, rfl, o2, b2⟩; obtain ⟨b, cp, rfl, hb, hR⟩ := words_ru o2 hw; have g2 := gr_of_below b2; have c0 := hR.at0 0 (by simp); simp only [List.getElem_cons_zero, vb_gats, mkB] at c0; have HG2 := hide (HG.out w2 b cp hR); replace hb := hide hb; replace hR := hide hR; replace g2 := hide g2; clear o2 b2)
    | (go_at_call 16; refine HG2.out.mono ?_; rintro e w3 R3; obtain ⟨ca, cc, ta, tc, ka, kc, rfl, r4, E4⟩ := rend_parse HB.out hb.out (hR.out.lt) (g2.out) R3; replace r4 := hide r4; replace E4 := hide E4; clear R3)
    | (refine wpList_store_row rfl 34 _ _ rfl w.heap.size (stC (rgetsN vb_gats ws (u : Int)) ca cc ta tc ka kc) rfl rfl _ _ r4.out (step_size _ _ _ _ _ _ _) rfl (step_one _ _ _ _ _ _ _) ?_))
  exact step_ret rfl E4.out.1 rfl rfl E4.out.2
set_option maxRecDepth 100000 in
set_option maxHeartbeats 4000000 in
theorem rp_version (h : Bu w a len cap l) (hlen : len ≤ 5000) (hL : lineN l = (x1, (u : Int), 0)) (hx : x1.length ≤ 2048) (hu : u ≤ len) (hw : wordsL x1 = vb_version :: ws) : Calls Tryd.prog 8 #[.slice a len cap] w fun e w' => ParseEnd (rbareS vb_version ws (u : Int)) w e w' := by
  obtain ⟨W0, B⟩ := begS_of w
  have eW := B.eW
  have HL := hide (rline_any (h.on (below_gr B.gr)) (by omega))
  rw [hL] at HL
  simp only [lineV] at HL
  have HWD := hide (refWords_any ⟨x1.toArray⟩ (mk_few hx) W0)
  obtain ⟨hwn, hwl⟩ := words_few hx hw
  have HB := hide B
  have HBu := hide (fun (W : World) (g : w.grownBy W none) => h.on (below_gr g))
  have HG := hide (fun (W : World) (b cp : Nat) (hR : Ru W b 0 (ws.length + 1) cp (vb_version :: ws)) => rbare_any hR (by decide) (u : Int))
  have hn0 : ¬ ((ws.length : Int) + 1 = 0) := by omega
  have hn1 : ¬ ((ws.length : Int) + 1 ≤ 0) := by omega
  clear B h hL hx hlen hu hwl hwn
  go_enter Tryd.func8, Tryd.ntmps8
  go_wp2_with (first
    | (go_at_call 13; refine HL.out.mono ?_; rintro e w1 ⟨rfl, rfl⟩; clear eW)
    | (go_at_call 15; refine HWD.out.mono ?_; rintro e w2 ⟨vv, rfl, o2, b2⟩; obtain ⟨b, cp, rfl, hb, hR⟩ := words_ru o2 hw; have g2 := gr_of_below b2; have c0 := hR.at0 0 (by simp); simp only [List.getElem_cons_zero, vb_version, mkB] at c0; have HG2 := hide (HG.out w2 b cp hR); replace hb := hide hb; replace hR := hide hR; replace g2 := hide g2; clear o2 b2)
    | (go_at_call 17; refine HG2.out.mono ?_; rintro e w3 R3; obtain ⟨ca, cc, ta, tc, ka, kc, rfl, r4, E4⟩ := rend_parse HB.out hb.out (hR.out.lt) (g2.out) R3; replace r4 := hide r4; replace E4 := hide E4; clear R3)
    | (refine wpList_store_row rfl 34 _ _ rfl w.heap.size (stC (rbareS vb_version ws (u : Int)) ca cc ta tc ka kc) rfl rfl _ _ r4.out (step_size _ _ _ _ _ _ _) rfl (step_one _ _ _ _ _ _ _) ?_))
  exact step_ret rfl E4.out.1 rfl rfl E4.out.2
set_option maxRecDepth 100000 in
set_option maxHeartbeats 4000000 in
theorem rp_quit (h : Bu w a len cap l) (hlen : len ≤ 5000) (hL : lineN l = (x1, (u : Int), 0)) (hx : x1.length ≤ 2048) (hu : u ≤ len) (hw : wordsL x1 = vb_quit :: ws) : Calls Tryd.prog 8 #[.slice a len cap] w fun e w' => ParseEnd (rbareS vb_quit ws (u : Int)) w e w' := by
  obtain ⟨W0, B⟩ := begS_of w
  have eW := B.eW
  have HL := hide (rline_any (h.on (below_gr B.gr)) (by omega))
  rw [hL] at HL
  simp only [lineV] at HL
  have HWD := hide (refWords_any ⟨x1.toArray⟩ (mk_few hx) W0)
  obtain ⟨hwn, hwl⟩ := words_few hx hw
  have HB := hide B
  have HBu := hide (fun (W : World) (g : w.grownBy W none) => h.on (below_gr g))
  have HG := hide (fun (W : World) (b cp : Nat) (hR : Ru W b 0 (ws.length + 1) cp (vb_quit :: ws)) => rbare_any hR (by decide) (u : Int))
  have hn0 : ¬ ((ws.length : Int) + 1 = 0) := by omega
  have hn1 : ¬ ((ws.length : Int) + 1 ≤ 0) := by omega
  clear B h hL hx hlen hu hwl hwn
  go_enter Tryd.func8, Tryd.ntmps8
  go_wp2_with (first
    | (go_at_call 13; refine HL.out.mono ?_; rintro e w1 ⟨rfl, rfl⟩; clear eW)
    | (go_at_call 15; refine HWD.out.mono ?_; rintro e w2 ⟨vv, rfl, o2, b2⟩; obtain ⟨b, cp, rfl, hb, hR⟩ := words_ru o2 hw; have g2 := gr_of_below b2; have c0 := hR.at0 0 (by simp); simp only [List.getElem_cons_zero, vb_quit, mkB] at c0; have HG2 := hide (HG.out w2 b cp hR); replace hb := hide hb; replace hR := hide hR; replace g2 := hide g2; clear o2 b2)
    | (go_at_call 17; refine HG2.out.mono ?_; rintro e w3 R3; obtain ⟨ca, cc, ta, tc, ka, kc, rfl, r4, E4⟩ := rend_parse HB.out hb.out (hR.out.lt) (g2.out) R3; replace r4 := hide r4; replace E4 := hide E4; clear R3)
    | (refine wpList_store_row rfl 34 _ _ rfl w.heap.size (stC (rbareS vb_quit ws (u : Int)) ca cc ta tc ka kc) rfl rfl _ _ r4.out (step_size _ _ _ _ _ _ _) rfl (step_one _ _ _ _ _ _ _) ?_))
  exact step_ret rfl E4.out.1 rfl rfl E4.out.2
end
end Go.Proofs.YtfcmnkhfmofioaaDoor
