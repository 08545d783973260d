/- The document's own text dialect: lines that store, their bodies (cas). Conditions: the words are not too long. -/
import Derived.Test.YtfcmnkhfmofioaaDoorRef14F
namespace Go.Proofs.YtfcmnkhfmofioaaDoor
set_option linter.unusedVariables false
set_option linter.unusedSimpArgs false
open Go.RowKit

section
variable {w : World} {b n cap : Nat} {v x f e y c : List UInt8} {ws : List (List UInt8)} {q : Bool} {z : Int} {u fu cu : Nat} {a : Option Addr} {len cp : Nat} {l : List UInt8}
set_option maxRecDepth 100000 in
set_option maxHeartbeats 4000000 in
theorem rca_more (hW : Ru w b 0 6 cap [vb_cas, x, f, e, y, c]) (lf : f.length ≤ 5000) (le : e.length ≤ 5000) (ly : y.length ≤ 5000) (lc : c.length ≤ 5000) (hk : keyN x = true) (hy : dec y = some u) (hu : u ≤ 1073741824) (hf : dec f = some fu) (hfu : fu ≤ 4294967295) (he : sgn e = some z) (hc : dec c = some cu) (hB : Bu w a len cp l) (hlen : len ≤ 10000) (hla : u ≤ 1000) (used : Nat) (huse : used ≤ len) (hbd : (bodyN (l.drop used) (u : Int)).2.2 = 3) : Calls Tryd.prog 20 #[.slice (some ⟨b, 0, none⟩) 6 cap, .bool q, .int .i64 (used : Int), .slice a len cp] w fun e w' => REnd b (moreS) w e w' := by
  have hb := hW.lt
  have hn := hW.n
  obtain ⟨W0, B⟩ := begS_of w
  have b0 := (hW.on B.gr).at0 0 (by simp)
  have b1 := (hW.on B.gr).at0 1 (by simp)
  have b2 := (hW.on B.gr).at0 2 (by simp)
  have b3 := (hW.on B.gr).at0 3 (by simp)
  have b4 := (hW.on B.gr).at0 4 (by simp)
  have b5 := (hW.on B.gr).at0 5 (by simp)
  have eW := B.eW
  have HB := hide B
  have hl0 : w.heap.size < W0.heap.size := by have := B.z; omega
  have HK := hide (fun W => rkey_any (mkB x) W)
  rw [mkB_list, hk] at HK
  simp only [mkB] at HK
  clear hk
  have D4 := hide (fun W => rdec_any y (by omega) W)
  rw [show decV y = (u : Int) by rw [decV, hy]; rfl, show decB y = true by rw [decB, hy]; rfl] at D4
  simp only [mkB] at D4
  clear hy
  have hui := hui_of hu
  have hus := hus_of hu
  have hus2 := hus2_of hu
  have D2 := hide (fun W => rdec_any f (by omega) W)
  rw [show decV f = (fu : Int) by rw [decV, hf]; rfl, show decB f = true by rw [decB, hf]; rfl] at D2
  simp only [mkB] at D2
  have hfi := hfi_no hfu
  have hfc := hfc_of hfu
  clear hf
  have S3 := hide (fun W => rsgn_any e (by omega) W)
  rw [show sgnV e = z by rw [sgnV, he]; rfl, show sgnB e = true by rw [sgnB, he]; rfl] at S3
  simp only [mkB] at S3
  clear he
  have D5 := hide (fun W => rdec_any c (by omega) W)
  rw [show decV c = (cu : Int) by rw [decV, hc]; rfl, show decB c = true by rw [decB, hc]; rfl] at D5
  simp only [mkB] at D5
  clear hc
  have HF := hide (fun W => rfault_any t_bad (by decide) (used : Int) W)
  have HM := hide (fun (w4 W2 : World) (O : Nat) => out_mid (W0 := W0) (w4 := w4) (W2 := W2) (B := O) (used := (used : Int)) ((u : Int) + 2))
  simp only [List.getElem_cons_zero, List.getElem_cons_succ, vb_cas, mkB] at b0 b1 b2 b3 b4 b5
  have hli := hli_no hla
  have hk1 : ∀ r : List UInt8, (bodyN r (u : Int)).2.1 ≤ 2000 ∧ 0 ≤ (bodyN r (u : Int)).2.1 := fun r => body_few r hla
  have hnl := hB.n
  obtain ⟨a', hsl, hbk⟩ := hB.back (i := used) huse
  have HBK := hide (fun (W : World) (hg : w.grownBy W none) => rbody_any (hbk W (hB.on (below_gr hg))) (u : Int))
  have HG := hide B.gr
  generalize hbo : bodyN (l.drop used) (u : Int) = bo at *
  obtain ⟨vl, kk, er⟩ := bo
  simp only [] at hbd HBK
  subst hbd
  have hkk : kk ≤ 2000 ∧ 0 ≤ kk := by have := hk1 (l.drop used); rw [hbo] at this; exact this
  have huk := huk_of huse hlen hkk
  clear hbo hk1
  have hui2 : (used : Int) ≤ (len : Int) := Int.ofNat_le.2 huse
  have HE := hide (fun (s : Sv) (hs : s.req = noQ) (W : World) (g : W0.grownBy W none) => r_bare (w := w) (W := W) (b := b) (s := s) hb hs ((g.block _ hl0 (by simp)).trans HB.out.res) (gr_trans HB.out.gr g))
  have R1 := hide (fun (W : World) (g : W0.grownBy W none) => (g.block _ hl0 (by simp)).trans HB.out.res)
  clear B hb hW hl0 hn lf le ly hu hfu hla hB hbk huse hkk hlen hnl lc
  go_enter Tryd.func20, Tryd.ntmps20
  go_wp2_with (first
    | (go_at_call 37; have t := D4; clear t; refine (D4.out _).mono ?_; rintro e w8 ⟨rfl, rfl⟩; clear D4)
    | (go_at_call 38; refine (HK.out _).mono ?_; rintro e w9 ⟨rfl, rfl⟩)
    | (go_at_call 37; have t := D2; clear t; refine (D2.out _).mono ?_; rintro e w8 ⟨rfl, rfl⟩; clear D2)
    | (go_at_call 35; refine (S3.out _).mono ?_; rintro e w8 ⟨rfl, rfl⟩)
    | (go_at_call 37; have t := D5; clear t; refine (D5.out _).mono ?_; rintro e w8 ⟨rfl, rfl⟩; clear D5)
    | (go_at_call 34; refine (rbad_any _).mono ?_; rintro e w7 ⟨rfl, rfl⟩)
    | (go_at_call 14; have t := HF; clear t; refine (HF.out _).mono ?_; rintro e w4 ⟨rfl, g4⟩; obtain ⟨O, hO⟩ : ∃ O, O = w4.heap.size := ⟨_, rfl⟩; obtain ⟨W2, hW2⟩ : ∃ W2, W2 = w4.alloc (.cells (stC (refuseS t_bad (used : Int)) none 0 none 0 none 0) 34) := ⟨_, rfl⟩; obtain ⟨o2, y2, n3, g3, l3⟩ := HM.out w4 W2 O g4 hW2 hO; obtain ⟨W3, hW3⟩ : ∃ W3, W3 = W2.setCell ⟨O, 13, none⟩ (.int .i64 ((u : Int) + 2)) := ⟨_, rfl⟩; rw [← hW3] at n3 g3; have e3 := hW3.symm;  replace n3 := hide n3; replace g3 := hide g3; replace l3 := hide l3; have M1 : Hid (w = w) := rfl; clear g4 hW3 HM HF)
    | (have t := M1; clear t; refine wpList_store_row rfl 34 _ _ rfl w4.heap.size (stC (refuseS t_bad (used : Int)) none 0 none 0 none 0) rfl rfl _ _ (World.alloc_heap_new w4 _) (step_size _ _ _ _ _ _ _) rfl (step_one _ _ _ _ _ _ _) ?_; rw [setRow_alloc, ← hW2, ← hO]; clear M1 hW2 hO; have M2 : Hid (w = w) := rfl)
    | (go_at_call 39; refine (HBK.out W3 (gr_trans HG.out g3.out)).mono ?_; rintro e w5 ⟨va, vc, rfl, V5, k5⟩; have g5 := hide (gr_trans g3.out k5); have U5 := hide V5; have s5 := hide k5.size; clear V5 k5)
    | (refine wpList_store_row rfl 34 _ _ rfl w.heap.size (stC moreS none 0 none 0 none 0) rfl rfl _ _ (R1.out w5 g5.out) (step_size _ _ _ _ _ _ _) rfl (step_one _ _ _ _ _ _ _) ?_))
  exact step_ret rfl (HE.out moreS rfl w5 g5.out).1 rfl rfl (HE.out moreS rfl w5 g5.out).2
set_option maxRecDepth 100000 in
set_option maxHeartbeats 4000000 in
theorem rca_chunk (hW : Ru w b 0 6 cap [vb_cas, x, f, e, y, c]) (lf : f.length ≤ 5000) (le : e.length ≤ 5000) (ly : y.length ≤ 5000) (lc : c.length ≤ 5000) (hk : keyN x = true) (hy : dec y = some u) (hu : u ≤ 1073741824) (hf : dec f = some fu) (hfu : fu ≤ 4294967295) (he : sgn e = some z) (hc : dec c = some cu) (hB : Bu w a len cp l) (hlen : len ≤ 10000) (hla : u ≤ 1000) (used : Nat) (huse : used ≤ len) (hbd : (bodyN (l.drop used) (u : Int)).2.2 = 2) : Calls Tryd.prog 20 #[.slice (some ⟨b, 0, none⟩) 6 cap, .bool q, .int .i64 (used : Int), .slice a len cp] w fun e w' => REnd b ({ refuseS t_chunk ((used : Int) + (bodyN (l.drop used) (u : Int)).2.1) with line := true }) w e w' := by
  have hb := hW.lt
  have hn := hW.n
  obtain ⟨W0, B⟩ := begS_of w
  have b0 := (hW.on B.gr).at0 0 (by simp)
  have b1 := (hW.on B.gr).at0 1 (by simp)
  have b2 := (hW.on B.gr).at0 2 (by simp)
  have b3 := (hW.on B.gr).at0 3 (by simp)
  have b4 := (hW.on B.gr).at0 4 (by simp)
  have b5 := (hW.on B.gr).at0 5 (by simp)
  have eW := B.eW
  have HB := hide B
  have hl0 : w.heap.size < W0.heap.size := by have := B.z; omega
  have HK := hide (fun W => rkey_any (mkB x) W)
  rw [mkB_list, hk] at HK
  simp only [mkB] at HK
  clear hk
  have D4 := hide (fun W => rdec_any y (by omega) W)
  rw [show decV y = (u : Int) by rw [decV, hy]; rfl, show decB y = true by rw [decB, hy]; rfl] at D4
  simp only [mkB] at D4
  clear hy
  have hui := hui_of hu
  have hus := hus_of hu
  have hus2 := hus2_of hu
  have D2 := hide (fun W => rdec_any f (by omega) W)
  rw [show decV f = (fu : Int) by rw [decV, hf]; rfl, show decB f = true by rw [decB, hf]; rfl] at D2
  simp only [mkB] at D2
  have hfi := hfi_no hfu
  have hfc := hfc_of hfu
  clear hf
  have S3 := hide (fun W => rsgn_any e (by omega) W)
  rw [show sgnV e = z by rw [sgnV, he]; rfl, show sgnB e = true by rw [sgnB, he]; rfl] at S3
  simp only [mkB] at S3
  clear he
  have D5 := hide (fun W => rdec_any c (by omega) W)
  rw [show decV c = (cu : Int) by rw [decV, hc]; rfl, show decB c = true by rw [decB, hc]; rfl] at D5
  simp only [mkB] at D5
  clear hc
  have HF := hide (fun W => rfault_any t_bad (by decide) (used : Int) W)
  have HM := hide (fun (w4 W2 : World) (O : Nat) => out_mid (W0 := W0) (w4 := w4) (W2 := W2) (B := O) (used := (used : Int)) ((u : Int) + 2))
  simp only [List.getElem_cons_zero, List.getElem_cons_succ, vb_cas, mkB] at b0 b1 b2 b3 b4 b5
  have hli := hli_no hla
  have hk1 : ∀ r : List UInt8, (bodyN r (u : Int)).2.1 ≤ 2000 ∧ 0 ≤ (bodyN r (u : Int)).2.1 := fun r => body_few r hla
  have hnl := hB.n
  obtain ⟨a', hsl, hbk⟩ := hB.back (i := used) huse
  have HBK := hide (fun (W : World) (hg : w.grownBy W none) => rbody_any (hbk W (hB.on (below_gr hg))) (u : Int))
  have HG := hide B.gr
  generalize hbo : bodyN (l.drop used) (u : Int) = bo at *
  obtain ⟨vl, kk, er⟩ := bo
  simp only [] at hbd HBK
  subst hbd
  have hkk : kk ≤ 2000 ∧ 0 ≤ kk := by have := hk1 (l.drop used); rw [hbo] at this; exact this
  have huk := huk_of huse hlen hkk
  clear hbo hk1
  have hui2 : (used : Int) ≤ (len : Int) := Int.ofNat_le.2 huse
  simp only []
  have HE := hide (fun (s : Sv) (hs : s.req = noQ) (W : World) (g : W0.grownBy W none) => r_bare (w := w) (W := W) (b := b) (s := s) hb hs ((g.block _ hl0 (by simp)).trans HB.out.res) (gr_trans HB.out.gr g))
  have R1 := hide (fun (W : World) (g : W0.grownBy W none) => (g.block _ hl0 (by simp)).trans HB.out.res)
  have HF2 := hide (fun W => rfault_any t_chunk (by decide) ((used : Int) + kk) W)
  simp only [t_chunk, mkB] at HF2
  clear B hb hW hl0 hn lf le ly hu hfu hla hB hbk huse hkk hlen hnl lc
  go_enter Tryd.func20, Tryd.ntmps20
  go_wp2_with (first
    | (go_at_call 37; have t := D4; clear t; refine (D4.out _).mono ?_; rintro e w8 ⟨rfl, rfl⟩; clear D4)
    | (go_at_call 38; refine (HK.out _).mono ?_; rintro e w9 ⟨rfl, rfl⟩)
    | (go_at_call 37; have t := D2; clear t; refine (D2.out _).mono ?_; rintro e w8 ⟨rfl, rfl⟩; clear D2)
    | (go_at_call 35; refine (S3.out _).mono ?_; rintro e w8 ⟨rfl, rfl⟩)
    | (go_at_call 37; have t := D5; clear t; refine (D5.out _).mono ?_; rintro e w8 ⟨rfl, rfl⟩; clear D5)
    | (go_at_call 34; refine (rbad_any _).mono ?_; rintro e w7 ⟨rfl, rfl⟩)
    | (go_at_call 14; have t := HF; clear t; refine (HF.out _).mono ?_; rintro e w4 ⟨rfl, g4⟩; obtain ⟨O, hO⟩ : ∃ O, O = w4.heap.size := ⟨_, rfl⟩; obtain ⟨W2, hW2⟩ : ∃ W2, W2 = w4.alloc (.cells (stC (refuseS t_bad (used : Int)) none 0 none 0 none 0) 34) := ⟨_, rfl⟩; obtain ⟨o2, y2, n3, g3, l3⟩ := HM.out w4 W2 O g4 hW2 hO; obtain ⟨W3, hW3⟩ : ∃ W3, W3 = W2.setCell ⟨O, 13, none⟩ (.int .i64 ((u : Int) + 2)) := ⟨_, rfl⟩; rw [← hW3] at n3 g3; have e3 := hW3.symm;  replace n3 := hide n3; replace g3 := hide g3; replace l3 := hide l3; have M1 : Hid (w = w) := rfl; clear g4 hW3 HM HF)
    | (have t := M1; clear t; refine wpList_store_row rfl 34 _ _ rfl w4.heap.size (stC (refuseS t_bad (used : Int)) none 0 none 0 none 0) rfl rfl _ _ (World.alloc_heap_new w4 _) (step_size _ _ _ _ _ _ _) rfl (step_one _ _ _ _ _ _ _) ?_; rw [setRow_alloc, ← hW2, ← hO]; clear M1 hW2 hO; have M2 : Hid (w = w) := rfl)
    | (go_at_call 39; refine (HBK.out W3 (gr_trans HG.out g3.out)).mono ?_; rintro e w5 ⟨va, vc, rfl, V5, k5⟩; have g5 := hide (gr_trans g3.out k5); have U5 := hide V5; have s5 := hide k5.size; clear V5 k5)
    | (go_at_call 14; refine (HF2.out _).mono ?_; rintro e w6 ⟨rfl, g6⟩; obtain ⟨O2, hO2⟩ : ∃ O2, O2 = w6.heap.size := ⟨_, rfl⟩; obtain ⟨W6, hW6⟩ : ∃ W6, W6 = w6.alloc (.cells (stC (refuseS t_chunk ((used : Int) + kk)) none 0 none 0 none 0) 34) := ⟨_, rfl⟩; have n6 : W6.heap[O2]? = some (.cells (stC (refuseS t_chunk ((used : Int) + kk)) none 0 none 0 none 0) 34 (0, 0)) := (by rw [hW6, hO2]; exact World.alloc_heap_new _ _); have l6 : W0.heap.size ≤ O2 := (by rw [hO2]; exact Nat.le_trans g5.out.size g6.size); have g7 : W0.grownBy W6 none := gr_trans g5.out (gr_trans g6 (by rw [hW6]; exact World.grownBy_alloc _ _ _)); have o6 : W6.cell? ⟨O2, 14, none⟩ = some (.bool false) := (by unfold World.cell?; rw [n6]; rfl); have y6 : W6.frozen? ⟨O2, 14, none⟩ = false := frozen_of_row _ _ _ _ _ n6; have n7 := hide (heap_setCell_same W6 O2 14 _ _ (.bool true) n6); have g8 := hide (grPut (j := 14) g7 l6 (.bool true)); obtain ⟨W7, hW7⟩ : ∃ W7, W7 = W6.setCell ⟨O2, 14, none⟩ (.bool true) := ⟨_, rfl⟩; rw [← hW7] at n7 g8; have e7 := hW7.symm; clear hW7 n6 g6 g7; replace l6 := hide l6; have M3 : Hid (w = w) := rfl)
    | (have t := M3; clear t; refine wpList_store_row rfl 34 _ _ rfl w6.heap.size (stC (refuseS t_chunk ((used : Int) + kk)) none 0 none 0 none 0) rfl rfl _ _ (World.alloc_heap_new w6 _) (step_size _ _ _ _ _ _ _) rfl (step_one _ _ _ _ _ _ _) ?_; rw [setRow_alloc, ← hW6, ← hO2]; clear M3 hW6 hO2; have M4 : Hid (w = w) := rfl)
    | (have t := M4; clear t; refine wpList_load_row rfl 34 _ rfl O2 rfl _ (stC { refuseS t_chunk ((used : Int) + kk) with line := true } none 0 none 0 none 0) _ _ n7.out Tryd.underlying34 rfl (step_size _ _ _ _ _ _ _) ?_; clear M4)
    | (refine wpList_store_row rfl 34 _ _ rfl w.heap.size (stC { refuseS t_chunk ((used : Int) + kk) with line := true } none 0 none 0 none 0) rfl rfl _ _ (R1.out W7 g8.out) (step_size _ _ _ _ _ _ _) rfl (step_one _ _ _ _ _ _ _) ?_))
  exact step_ret rfl (HE.out { refuseS t_chunk ((used : Int) + kk) with line := true } rfl W7 g8.out).1 rfl rfl (HE.out { refuseS t_chunk ((used : Int) + kk) with line := true } rfl W7 g8.out).2
set_option maxRecDepth 100000 in
set_option maxHeartbeats 4000000 in
theorem rca_ok (hW : Ru w b 0 6 cap [vb_cas, x, f, e, y, c]) (lf : f.length ≤ 5000) (le : e.length ≤ 5000) (ly : y.length ≤ 5000) (lc : c.length ≤ 5000) (hk : keyN x = true) (hy : dec y = some u) (hu : u ≤ 1073741824) (hf : dec f = some fu) (hfu : fu ≤ 4294967295) (he : sgn e = some z) (hc : dec c = some cu) (hB : Bu w a len cp l) (hlen : len ≤ 10000) (hla : u ≤ 1000) (used : Nat) (huse : used ≤ len) (hbd : (bodyN (l.drop used) (u : Int)).2.2 = 0) : Calls Tryd.prog 20 #[.slice (some ⟨b, 0, none⟩) 6 cap, .bool q, .int .i64 (used : Int), .slice a len cp] w fun e w' => REnd b (oneS ((used : Int) + (bodyN (l.drop used) (u : Int)).2.1) ⟨ropN vb_cas, mkB x, (bodyN (l.drop used) (u : Int)).1, (fu : Int), z, (cu : Int), 0, 0, false, false⟩ (formO vb_cas q [mkB x])) w e w' := by
  have hb := hW.lt
  have hn := hW.n
  obtain ⟨W0, B⟩ := begS_of w
  have b0 := (hW.on B.gr).at0 0 (by simp)
  have b1 := (hW.on B.gr).at0 1 (by simp)
  have b2 := (hW.on B.gr).at0 2 (by simp)
  have b3 := (hW.on B.gr).at0 3 (by simp)
  have b4 := (hW.on B.gr).at0 4 (by simp)
  have b5 := (hW.on B.gr).at0 5 (by simp)
  have eW := B.eW
  have HB := hide B
  have hl0 : w.heap.size < W0.heap.size := by have := B.z; omega
  have HK := hide (fun W => rkey_any (mkB x) W)
  rw [mkB_list, hk] at HK
  simp only [mkB] at HK
  clear hk
  have D4 := hide (fun W => rdec_any y (by omega) W)
  rw [show decV y = (u : Int) by rw [decV, hy]; rfl, show decB y = true by rw [decB, hy]; rfl] at D4
  simp only [mkB] at D4
  clear hy
  have hui := hui_of hu
  have hus := hus_of hu
  have hus2 := hus2_of hu
  have D2 := hide (fun W => rdec_any f (by omega) W)
  rw [show decV f = (fu : Int) by rw [decV, hf]; rfl, show decB f = true by rw [decB, hf]; rfl] at D2
  simp only [mkB] at D2
  have hfi := hfi_no hfu
  have hfc := hfc_of hfu
  clear hf
  have S3 := hide (fun W => rsgn_any e (by omega) W)
  rw [show sgnV e = z by rw [sgnV, he]; rfl, show sgnB e = true by rw [sgnB, he]; rfl] at S3
  simp only [mkB] at S3
  clear he
  have D5 := hide (fun W => rdec_any c (by omega) W)
  rw [show decV c = (cu : Int) by rw [decV, hc]; rfl, show decB c = true by rw [decB, hc]; rfl] at D5
  simp only [mkB] at D5
  clear hc
  have HF := hide (fun W => rfault_any t_bad (by decide) (used : Int) W)
  have HM := hide (fun (w4 W2 : World) (O : Nat) => out_mid (W0 := W0) (w4 := w4) (W2 := W2) (B := O) (used := (used : Int)) ((u : Int) + 2))
  simp only [List.getElem_cons_zero, List.getElem_cons_succ, vb_cas, mkB] at b0 b1 b2 b3 b4 b5
  have hli := hli_no hla
  have hk1 : ∀ r : List UInt8, (bodyN r (u : Int)).2.1 ≤ 2000 ∧ 0 ≤ (bodyN r (u : Int)).2.1 := fun r => body_few r hla
  have hnl := hB.n
  obtain ⟨a', hsl, hbk⟩ := hB.back (i := used) huse
  have HBK := hide (fun (W : World) (hg : w.grownBy W none) => rbody_any (hbk W (hB.on (below_gr hg))) (u : Int))
  have HG := hide B.gr
  generalize hbo : bodyN (l.drop used) (u : Int) = bo at *
  obtain ⟨vl, kk, er⟩ := bo
  simp only [] at hbd HBK
  subst hbd
  have hkk : kk ≤ 2000 ∧ 0 ≤ kk := by have := hk1 (l.drop used); rw [hbo] at this; exact this
  have huk := huk_of huse hlen hkk
  clear hbo hk1
  have hui2 : (used : Int) ≤ (len : Int) := Int.ofNat_le.2 huse
  simp only []
  have HW := hide hW
  have HX := hide hb
  have HL0 := hide hl0
  have HSE := hide (fun W => slice_one (b := b) (n := 6) (cap := cap) (by decide) hW.c W)
  clear B hb hW hl0 hn lf le ly hu hfu hla hB hbk huse hkk hlen hnl lc
  go_enter Tryd.func20, Tryd.ntmps20
  go_wp2_with (first
    | (go_at_call 37; have t := D4; clear t; refine (D4.out _).mono ?_; rintro e w8 ⟨rfl, rfl⟩; clear D4)
    | (go_at_call 38; refine (HK.out _).mono ?_; rintro e w9 ⟨rfl, rfl⟩)
    | (go_at_call 37; have t := D2; clear t; refine (D2.out _).mono ?_; rintro e w8 ⟨rfl, rfl⟩; clear D2)
    | (go_at_call 35; refine (S3.out _).mono ?_; rintro e w8 ⟨rfl, rfl⟩)
    | (go_at_call 37; have t := D5; clear t; refine (D5.out _).mono ?_; rintro e w8 ⟨rfl, rfl⟩; clear D5)
    | (go_at_call 34; refine (rbad_any _).mono ?_; rintro e w7 ⟨rfl, rfl⟩)
    | (go_at_call 14; have t := HF; clear t; refine (HF.out _).mono ?_; rintro e w4 ⟨rfl, g4⟩; obtain ⟨O, hO⟩ : ∃ O, O = w4.heap.size := ⟨_, rfl⟩; obtain ⟨W2, hW2⟩ : ∃ W2, W2 = w4.alloc (.cells (stC (refuseS t_bad (used : Int)) none 0 none 0 none 0) 34) := ⟨_, rfl⟩; obtain ⟨o2, y2, n3, g3, l3⟩ := HM.out w4 W2 O g4 hW2 hO; obtain ⟨W3, hW3⟩ : ∃ W3, W3 = W2.setCell ⟨O, 13, none⟩ (.int .i64 ((u : Int) + 2)) := ⟨_, rfl⟩; rw [← hW3] at n3 g3; have e3 := hW3.symm;  replace n3 := hide n3; replace g3 := hide g3; replace l3 := hide l3; have M1 : Hid (w = w) := rfl; clear g4 hW3 HM HF)
    | (have t := M1; clear t; refine wpList_store_row rfl 34 _ _ rfl w4.heap.size (stC (refuseS t_bad (used : Int)) none 0 none 0 none 0) rfl rfl _ _ (World.alloc_heap_new w4 _) (step_size _ _ _ _ _ _ _) rfl (step_one _ _ _ _ _ _ _) ?_; rw [setRow_alloc, ← hW2, ← hO]; clear M1 hW2 hO; have M2 : Hid (w = w) := rfl)
    | (go_at_call 39; refine (HBK.out W3 (gr_trans HG.out g3.out)).mono ?_; rintro e w5 ⟨va, vc, rfl, V5, k5⟩; have g5 := hide (gr_trans g3.out k5); have U5 := hide V5; have s5 := hide k5.size; clear V5 k5))
  obtain ⟨C, hC⟩ : ∃ C : Cv, C = ⟨ropN vb_cas, mkB x, vl, (fu : Int), z, (cu : Int), 0, 0, false, false⟩ := ⟨_, rfl⟩
  have U6 : Hid (ValAt W3.heap.size w5 va vc C.val) := by show ValAt _ _ _ _ _; rw [hC]; exact U5.out
  have HCC : Hid (cmC C va vc = #[.int .i64 (ropN vb_cas), .string (mkB x), .slice va vl.length vc, .int .u32 (fu : Int), .int .i64 z, .int .u64 ((cu : Int)), .int .u64 0, .int .u64 0, .bool false, .bool false]) := by show _ = _; rw [hC]; rfl
  have HOP := hide (fun W => rop_any vb_cas W)
  have HON := hide (fun (W : World) => rone_any ((used : Int) + kk) C va vc (formO vb_cas q [mkB x]) none 0 (some ⟨b, 1, none⟩) (cap - 1) W)
  have S5 : SB b ⟨#[99, 97, 115]⟩ ⟨x.toArray⟩ w5 := SB.on ⟨b0, b1⟩ g5.out
  have hse := HSE.out
  replace hC := hide hC
  simp only [vb_cas, mkB] at HOP HCC
  clear U5 b0 b1
  refine region_htail (S := SB b ⟨#[99, 97, 115]⟩ ⟨x.toArray⟩) 14 (by kernel_rfl) (by simp) (by kernel_rfl) ?_
  simp only [List.take_succ_cons, List.take_zero, List.drop_succ_cons, List.drop_zero]
  have S6 : SB b ⟨#[99, 97, 115]⟩ ⟨x.toArray⟩ w5.drew := S5.on (gr_drewM w5 1)
  have G6 : Hid (w5.grownBy w5.drew none) := gr_drewM w5 1
  generalize w5.drew = w6 at *
  refine take_at 0 133 (v := .slice (some ⟨b, 0, none⟩) 6 cap) rfl rfl (by kernel_rfl) (by kernel_rfl) (by kernel_rfl) (fun _ _ _ h => h) (Or.inl ⟨by rfl, fun W hW => by go_simp⟩) S6 ?_
  simp only [Act.put, List.setIfInBounds_toArray, List.set_cons_zero, List.set_cons_succ]
  refine take_at 1 134 (v := .pointer (some ⟨b, 0, none⟩)) rfl rfl (by kernel_rfl) (by kernel_rfl) (by kernel_rfl) (fun _ _ _ h => h) (Or.inl ⟨by rfl, fun W hW => by go_simp⟩) S6 ?_
  simp only [Act.put, List.setIfInBounds_toArray, List.set_cons_zero, List.set_cons_succ]
  refine take_at 2 135 (v := .string ⟨#[99, 97, 115]⟩) rfl rfl (by kernel_rfl) (by kernel_rfl) (by kernel_rfl) (fun _ _ _ h => h) (Or.inl ⟨by rfl, fun W hW => by have h1 := hW.1; go_simp⟩) S6 ?_
  simp only [Act.put, List.setIfInBounds_toArray, List.set_cons_zero, List.set_cons_succ]
  refine take_at 4 137 (v := .slice (some ⟨b, 0, none⟩) 6 cap) rfl rfl (by kernel_rfl) (by kernel_rfl) (by kernel_rfl) (fun _ _ _ h => h) (Or.inl ⟨by rfl, fun W hW => by go_simp⟩) S6 ?_
  simp only [Act.put, List.setIfInBounds_toArray, List.set_cons_zero, List.set_cons_succ]
  refine take_at 5 138 (v := .pointer (some ⟨b, 1, none⟩)) rfl rfl (by kernel_rfl) (by kernel_rfl) (by kernel_rfl) (fun _ _ _ h => h) (Or.inl ⟨by rfl, fun W hW => by go_simp⟩) S6 ?_
  simp only [Act.put, List.setIfInBounds_toArray, List.set_cons_zero, List.set_cons_succ]
  refine take_at 6 139 (v := .string ⟨x.toArray⟩) rfl rfl (by kernel_rfl) (by kernel_rfl) (by kernel_rfl) (fun _ _ _ h => h) (Or.inl ⟨by rfl, fun W hW => by have h1 := hW.2; go_simp⟩) S6 ?_
  simp only [Act.put, List.setIfInBounds_toArray, List.set_cons_zero, List.set_cons_succ]
  refine take_at 7 140 (v := .slice va vl.length vc) rfl rfl (by kernel_rfl) (by kernel_rfl) (by kernel_rfl) (fun _ _ _ h => h) (Or.inl ⟨by rfl, fun W hW => by go_simp⟩) S6 ?_
  simp only [Act.put, List.setIfInBounds_toArray, List.set_cons_zero, List.set_cons_succ]
  refine take_at 8 141 (v := .int .u64 (fu : Int)) rfl rfl (by kernel_rfl) (by kernel_rfl) (by kernel_rfl) (fun _ _ _ h => h) (Or.inl ⟨by rfl, fun W hW => by go_simp⟩) S6 ?_
  simp only [Act.put, List.setIfInBounds_toArray, List.set_cons_zero, List.set_cons_succ]
  refine take_at 9 142 (v := .int .u32 (fu : Int)) rfl rfl (by kernel_rfl) (by kernel_rfl) (by kernel_rfl) (fun _ _ _ h => h) (Or.inl ⟨by rfl, fun W hW => by go_simp⟩) S6 ?_
  simp only [Act.put, List.setIfInBounds_toArray, List.set_cons_zero, List.set_cons_succ]
  refine take_at 10 143 (v := .int .i64 z) rfl rfl (by kernel_rfl) (by kernel_rfl) (by kernel_rfl) (fun _ _ _ h => h) (Or.inl ⟨by rfl, fun W hW => by go_simp⟩) S6 ?_
  simp only [Act.put, List.setIfInBounds_toArray, List.set_cons_zero, List.set_cons_succ]
  refine take_at 11 144 (v := .int .u64 ((cu : Int))) rfl rfl (by kernel_rfl) (by kernel_rfl) (by kernel_rfl) (fun _ _ _ h => h) (Or.inl ⟨by rfl, fun W hW => by go_simp⟩) S6 ?_
  simp only [Act.put, List.setIfInBounds_toArray, List.set_cons_zero, List.set_cons_succ]
  refine wpAnyH_all (rs := [3, 13]) (by kernel_rfl) (by simp) fun j hj => ?_
  rcases List.mem_cons.1 hj with rfl | hj
  · refine wpOp_plain rfl rfl ?_
    refine oper_call 136 rfl (by go_simp) (HOP.out w6) ?_
    rintro e w7 ⟨rfl, g7⟩
    refine ⟨_, rfl, ?_⟩
    have S7 : SB b ⟨#[99, 97, 115]⟩ ⟨x.toArray⟩ w7 := S6.on g7
    have G7 : Hid (w5.grownBy w7 none) := gr_trans G6.out g7
    refine ⟨S7, ?_⟩
    simp only [Act.put, List.setIfInBounds_toArray, List.set_cons_zero, List.set_cons_succ]
    refine take_at 12 145 (v := .agg (cmC C va vc)) rfl rfl (by kernel_rfl) (by kernel_rfl) (by kernel_rfl) (fun _ _ _ h => h) (Or.inl ⟨by rfl, fun W hW => by rw [HCC.out]; go_simp⟩) S7 ?_
    simp only [Act.put, List.setIfInBounds_toArray, List.set_cons_zero, List.set_cons_succ]
    refine one_at 13 (by kernel_rfl) rfl rfl ?_
    refine oper_value 26 (w' := w7.alloc (.cells zeroCm 40)) (v := .pointer (some ⟨w7.heap.size, 0, none⟩)) rfl (by unfold zeroCm; go_simp) ?_
    have g8 := World.grownBy_alloc w7 (.cells zeroCm 40) none
    refine ⟨S7.on g8, ?_⟩
    simp only [Act.put, List.setIfInBounds_toArray, List.set_cons_zero, List.set_cons_succ]
    obtain ⟨K, w8, eK, e8, N8, l8, G8⟩ := box_in w7 zeroCm G7.out
    rw [eK, e8]
    have n8 := hide N8
    replace G8 := hide G8
    replace l8 := hide l8
    have S8 : Hid (SB b ⟨#[99, 97, 115]⟩ ⟨x.toArray⟩ w8) := S5.on G8.out
    clear eK e8 N8 S7 G7 g8 g7
    refine wpAnyH_done (by kernel_rfl) ?_ _
    change wpList _ _ _ _ _ _
    clear HOP
    go_wp2_with (first
      | (refine wpList_store_row rfl 40 _ _ rfl K (cmC C va vc) rfl rfl _ _ n8.out (cmd_size _ _ _) rfl (cmd_one _ _ _) ?_; obtain ⟨w9, n9, g9, hw9⟩ := row_in (cmC C va vc) n8.out l8.out G8.out; rw [hw9]; have S9 := S5.on g9; clear S5))
    obtain ⟨q0, q1, q2, q3, q4, q5, q6, q7, q8, q9⟩ := cm_cells n9
    obtain ⟨c0, c1⟩ := S9
    clear n8 S8 hw9
    refine region_dtail 11 (by kernel_rfl) (by simp) (by kernel_rfl) ?_
    simp only [List.take_succ_cons, List.take_zero, List.drop_succ_cons, List.drop_zero]
    repeat (quiet_step (fail))
    refine wpQuiet_nil ?_
    intro _ hw'
    obtain ⟨nq, rfl⟩ := hw'
    clear q0 q1 q2 q3 q4 q5 q6 q7 q8 q9 c0 c1 hse HCC
    have G9 : Hid (w5.grownBy (w9.drewN nq) none) := gr_trans g9 (gr_drewM w9 nq)
    clear n9 g9
    have huk2 : IntKind.i64.wrap ((used : Int) + kk) = (used : Int) + kk := huk2_of huk
    rw [huk2]
    clear huk2
    generalize w9.drewN nq = wa at *
    go_wp2_with (first
      | (go_at_call 36; refine (HON.out wa).mono ?_; rintro e wb ⟨B, b1, b2, rfl, hB, gb⟩; have EE := hide (st_end (n := 6) (cap := cap) (used := (used : Int) + kk) (q := q) HB.out HW.out g5.out U6.out (Nat.le_trans g3.out.size (Nat.le_refl _)) (gr_trans G9.out gb) hB (Nat.le_trans (Nat.le_trans g5.out.size G9.out.size) b1)); have RR := hide ((gr_trans g5.out (gr_trans G9.out gb)).block w.heap.size HL0.out (by simp)); clear b1 b2 hB gb)
      | (refine wpList_store_row rfl 34 _ _ rfl w.heap.size (stC (oneS ((used : Int) + kk) C (formO vb_cas q [mkB x])) (some ⟨B, 0, none⟩) 1 none 0 (some ⟨b, 1, none⟩) (cap - 1)) rfl rfl _ _ (RR.out.trans HB.out.res) (step_size _ _ _ _ _ _ _) rfl (step_one _ _ _ _ _ _ _) ?_))
    have hC2 := hC.out
    subst hC2
    exact step_ret rfl EE.out.1 rfl rfl EE.out.2
  · obtain rfl : j = 13 := by simpa using hj
    refine wpOp_plain rfl rfl ?_
    refine oper_value 26 (w' := w6.alloc (.cells zeroCm 40)) (v := .pointer (some ⟨w6.heap.size, 0, none⟩)) rfl (by unfold zeroCm; go_simp) ?_
    obtain ⟨K, w7, eK, e7, N7, l7, G7⟩ := box_in w6 zeroCm G6.out
    rw [eK, e7]
    have S7 : SB b ⟨#[99, 97, 115]⟩ ⟨x.toArray⟩ w7 := S5.on G7
    refine ⟨S7, ?_⟩
    simp only [Act.put, List.setIfInBounds_toArray, List.set_cons_zero, List.set_cons_succ]
    refine one_at 3 (by kernel_rfl) rfl rfl ?_
    refine oper_call 136 rfl (by go_simp) (HOP.out w7) ?_
    rintro e w8 ⟨rfl, g7⟩
    refine ⟨_, rfl, ?_⟩
    have G8 : Hid (w5.grownBy w8 none) := gr_trans G7 g7
    have S8 : Hid (SB b ⟨#[99, 97, 115]⟩ ⟨x.toArray⟩ w8) := S5.on G8.out
    have n8 : Hid (w8.heap[K]? = some (.cells zeroCm 40 (0, 0))) := (g7.block K (Array.getElem?_eq_some_iff.1 N7).1 (by simp)).trans N7
    have l8 : Hid (w5.heap.size ≤ K) := l7
    refine ⟨S8.out, ?_⟩
    simp only [Act.put, List.setIfInBounds_toArray, List.set_cons_zero, List.set_cons_succ]
    refine one_at 12 (by kernel_rfl) rfl rfl ?_
    refine oper_value 145 (w' := w8) (v := .agg (cmC C va vc)) rfl (by rw [HCC.out]; go_simp) ?_
    refine ⟨S8.out, ?_⟩
    simp only [Act.put, List.setIfInBounds_toArray, List.set_cons_zero, List.set_cons_succ]
    clear eK e7 N7 S7 G7 g7 l7
    refine wpAnyH_done (by kernel_rfl) ?_ _
    change wpList _ _ _ _ _ _
    clear HOP
    go_wp2_with (first
      | (refine wpList_store_row rfl 40 _ _ rfl K (cmC C va vc) rfl rfl _ _ n8.out (cmd_size _ _ _) rfl (cmd_one _ _ _) ?_; obtain ⟨w9, n9, g9, hw9⟩ := row_in (cmC C va vc) n8.out l8.out G8.out; rw [hw9]; have S9 := S5.on g9; clear S5))
    obtain ⟨q0, q1, q2, q3, q4, q5, q6, q7, q8, q9⟩ := cm_cells n9
    obtain ⟨c0, c1⟩ := S9
    clear n8 S8 hw9
    refine region_dtail 11 (by kernel_rfl) (by simp) (by kernel_rfl) ?_
    simp only [List.take_succ_cons, List.take_zero, List.drop_succ_cons, List.drop_zero]
    repeat (quiet_step (fail))
    refine wpQuiet_nil ?_
    intro _ hw'
    obtain ⟨nq, rfl⟩ := hw'
    clear q0 q1 q2 q3 q4 q5 q6 q7 q8 q9 c0 c1 hse HCC
    have G9 : Hid (w5.grownBy (w9.drewN nq) none) := gr_trans g9 (gr_drewM w9 nq)
    clear n9 g9
    have huk2 : IntKind.i64.wrap ((used : Int) + kk) = (used : Int) + kk := huk2_of huk
    rw [huk2]
    clear huk2
    generalize w9.drewN nq = wa at *
    go_wp2_with (first
      | (go_at_call 36; refine (HON.out wa).mono ?_; rintro e wb ⟨B, b1, b2, rfl, hB, gb⟩; have EE := hide (st_end (n := 6) (cap := cap) (used := (used : Int) + kk) (q := q) HB.out HW.out g5.out U6.out (Nat.le_trans g3.out.size (Nat.le_refl _)) (gr_trans G9.out gb) hB (Nat.le_trans (Nat.le_trans g5.out.size G9.out.size) b1)); have RR := hide ((gr_trans g5.out (gr_trans G9.out gb)).block w.heap.size HL0.out (by simp)); clear b1 b2 hB gb)
      | (refine wpList_store_row rfl 34 _ _ rfl w.heap.size (stC (oneS ((used : Int) + kk) C (formO vb_cas q [mkB x])) (some ⟨B, 0, none⟩) 1 none 0 (some ⟨b, 1, none⟩) (cap - 1)) rfl rfl _ _ (RR.out.trans HB.out.res) (step_size _ _ _ _ _ _ _) rfl (step_one _ _ _ _ _ _ _) ?_))
    have hC2 := hC.out
    subst hC2
    exact step_ret rfl EE.out.1 rfl rfl EE.out.2
end
end Go.Proofs.YtfcmnkhfmofioaaDoor
