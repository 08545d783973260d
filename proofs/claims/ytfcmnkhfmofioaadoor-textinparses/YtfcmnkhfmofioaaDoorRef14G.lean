/- The document's own text dialect: lines that store, their faults. Conditions: the words are not too long. -/
import Derived.Test.YtfcmnkhfmofioaaDoorRef14F
namespace Go.Proofs.YtfcmnkhfmofioaaDoor
set_option linter.unusedVariables false
set_option linter.unusedSimpArgs false
open Go.RowKit

section
variable {w : World} {b n cap : Nat} {v x f e y c : List UInt8} {ws : List (List UInt8)} {q : Bool} {z : Int} {u fu cu : Nat} {a : Option Addr} {len cp : Nat} {l : List UInt8}
set_option maxRecDepth 100000 in
set_option maxHeartbeats 4000000 in
theorem rst_few (hW : Ru w b 0 n cap (v :: ws)) (hv : v ≠ vb_cas) (hne : n ≠ 5) (used : Nat) : Calls Tryd.prog 20 #[.slice (some ⟨b, 0, none⟩) n cap, .bool q, .int .i64 (used : Int), .slice a len cp] w fun e w' => REnd b (refuseS t_ERROR (used : Int)) w e w' := by
  have hb := hW.lt
  have hn := hW.n
  obtain ⟨W0, B⟩ := begS_of w
  have b0 := (hW.on B.gr).at0 0 (by simp)
  have eW := B.eW
  have HB := hide B
  have hl0 : w.heap.size < W0.heap.size := by have := B.z; omega
  have HE := hide (fun (W : World) (g : W0.grownBy W none) => r_bare (w := w) (W := W) (b := b) (s := refuseS t_ERROR (used : Int)) hb rfl ((g.block _ hl0 (by simp)).trans HB.out.res) (gr_trans HB.out.gr g))
  have R1 := hide (fun (W : World) (g : W0.grownBy W none) => (g.block _ hl0 (by simp)).trans HB.out.res)
  have HF := hide (fun W => rfault_any t_ERROR (by decide) (used : Int) W)
  simp only [t_ERROR, mkB] at HF
  have hvb : (v == vb_cas) = false := by rw [beq_eq_false_iff_ne]; exact hv
  simp only [vb_cas] at hvb
  have hnb : ((n : Int) == 5) = false := by rw [beq_eq_false_iff_ne]; omega
  have hn0 : ¬ (n : Int) ≤ 0 := by simp at hn; omega
  simp only [List.getElem_cons_zero, mkB] at b0
  clear B hb hW hl0 hn hne hv
  go_enter Tryd.func20, Tryd.ntmps20
  go_wp2_with (first
    | (go_at_call 14; refine (HF.out _).mono ?_; rintro e w1 ⟨rfl, g1⟩; replace g1 := hide g1)
    | (refine wpList_store_row rfl 34 _ _ rfl w.heap.size (stC (refuseS t_ERROR (used : Int)) none 0 none 0 none 0) rfl rfl _ _ (R1.out w1 g1.out) (step_size _ _ _ _ _ _ _) rfl (step_one _ _ _ _ _ _ _) ?_))
  exact step_ret rfl (HE.out w1 g1.out).1 rfl rfl (HE.out w1 g1.out).2
set_option maxRecDepth 100000 in
set_option maxHeartbeats 4000000 in
theorem rst_key_none (hW : Ru w b 0 5 cap [v, x, f, e, y]) (hv : v ≠ vb_cas) (lf : f.length ≤ 5000) (le : e.length ≤ 5000) (ly : y.length ≤ 5000) (hk : keyN x = false) (hy : dec y = none) (used : Nat) : Calls Tryd.prog 20 #[.slice (some ⟨b, 0, none⟩) 5 cap, .bool q, .int .i64 (used : Int), .slice a len cp] w fun e w' => REnd b ({ refuseS t_bad (used : Int) with skip := 0 }) w e w' := by
  have hb := hW.lt
  have hn := hW.n
  obtain ⟨W0, B⟩ := begS_of w
  have b0 := (hW.on B.gr).at0 0 (by simp)
  have b1 := (hW.on B.gr).at0 1 (by simp)
  have b2 := (hW.on B.gr).at0 2 (by simp)
  have b3 := (hW.on B.gr).at0 3 (by simp)
  have b4 := (hW.on B.gr).at0 4 (by simp)
  have eW := B.eW
  have HB := hide B
  have hl0 : w.heap.size < W0.heap.size := by have := B.z; omega
  have hvb : (v == vb_cas) = false := by rw [beq_eq_false_iff_ne]; exact hv
  simp only [vb_cas] at hvb
  clear hv
  have HK := hide (fun W => rkey_any (mkB x) W)
  rw [mkB_list, hk] at HK
  simp only [mkB] at HK
  clear hk
  have D4 := hide (fun W => rdec_any y (by omega) W)
  rw [show decV y = 0 by rw [decV, hy]; rfl, show decB y = false by rw [decB, hy]; rfl] at D4
  simp only [mkB] at D4
  clear hy
  have D2 := hide (fun W => rdec_any f (by omega) W)
  obtain ⟨D2v, D2b, D2e⟩ : ∃ i j, decV f = i ∧ decB f = j := ⟨_, _, rfl, rfl⟩
  rw [D2e.1, D2e.2] at D2
  clear D2e
  simp only [mkB] at D2
  have S3 := hide (fun W => rsgn_any e (by omega) W)
  obtain ⟨S3v, S3b, S3e⟩ : ∃ i j, sgnV e = i ∧ sgnB e = j := ⟨_, _, rfl, rfl⟩
  rw [S3e.1, S3e.2] at S3
  clear S3e
  simp only [mkB] at S3
  have D5 := hide (fun W => rdec_any [48] (by decide) W)
  rw [dec48.1, dec48.2] at D5
  simp only [mkB] at D5
  have HF := hide (fun W => rfault_any t_bad (by decide) (used : Int) W)
  have HM := hide (fun (w4 W2 : World) (O : Nat) => out_mid (W0 := W0) (w4 := w4) (W2 := W2) (B := O) (used := (used : Int)) (0))
  simp only [List.getElem_cons_zero, List.getElem_cons_succ, mkB] at b0 b1 b2 b3 b4
  have HE := hide (fun (W : World) (g : W0.grownBy W none) => r_bare (w := w) (W := W) (b := b) (s := { refuseS t_bad (used : Int) with skip := 0 }) hb rfl ((g.block _ hl0 (by simp)).trans HB.out.res) (gr_trans HB.out.gr g))
  have R1 := hide (fun (W : World) (g : W0.grownBy W none) => (g.block _ hl0 (by simp)).trans HB.out.res)
  clear B hb hW hl0 hn lf le ly
  go_enter Tryd.func20, Tryd.ntmps20
  go_wp2_with (first
    | (go_at_call 37; have t := D4; clear t; refine (D4.out _).mono ?_; rintro e w8 ⟨rfl, rfl⟩; clear D4)
    | (go_at_call 38; refine (HK.out _).mono ?_; rintro e w9 ⟨rfl, rfl⟩)
    | (go_at_call 37; have t := D2; clear t; refine (D2.out _).mono ?_; rintro e w8 ⟨rfl, rfl⟩; clear D2)
    | (go_at_call 35; refine (S3.out _).mono ?_; rintro e w8 ⟨rfl, rfl⟩)
    | (go_at_call 37; have t := D5; clear t; refine (D5.out _).mono ?_; rintro e w8 ⟨rfl, rfl⟩; clear D5)
    | (go_at_call 34; refine (rbad_any _).mono ?_; rintro e w7 ⟨rfl, rfl⟩)
    | (go_at_call 14; have t := HF; clear t; refine (HF.out _).mono ?_; rintro e w4 ⟨rfl, g4⟩; obtain ⟨O, hO⟩ : ∃ O, O = w4.heap.size := ⟨_, rfl⟩; obtain ⟨W2, hW2⟩ : ∃ W2, W2 = w4.alloc (.cells (stC (refuseS t_bad (used : Int)) none 0 none 0 none 0) 34) := ⟨_, rfl⟩; obtain ⟨o2, y2, n3, g3, l3⟩ := HM.out w4 W2 O g4 hW2 hO; obtain ⟨W3, hW3⟩ : ∃ W3, W3 = W2.setCell ⟨O, 13, none⟩ (.int .i64 (0)) := ⟨_, rfl⟩; rw [← hW3] at n3 g3; have e3 := hW3.symm;  replace n3 := hide n3; replace g3 := hide g3; replace l3 := hide l3; have M1 : Hid (w = w) := rfl; clear g4 hW3 HM HF)
    | (have t := M1; clear t; refine wpList_store_row rfl 34 _ _ rfl w4.heap.size (stC (refuseS t_bad (used : Int)) none 0 none 0 none 0) rfl rfl _ _ (World.alloc_heap_new w4 _) (step_size _ _ _ _ _ _ _) rfl (step_one _ _ _ _ _ _ _) ?_; rw [setRow_alloc, ← hW2, ← hO]; clear M1 hW2 hO; have M2 : Hid (w = w) := rfl)
    | (have t := M2; clear t; refine wpList_load_row rfl 34 _ rfl O rfl _ (stC ({ refuseS t_bad (used : Int) with skip := 0 }) none 0 none 0 none 0) _ _ n3.out Tryd.underlying34 rfl (step_size _ _ _ _ _ _ _) ?_; clear M2)
    | (refine wpList_store_row rfl 34 _ _ rfl w.heap.size (stC ({ refuseS t_bad (used : Int) with skip := 0 }) none 0 none 0 none 0) rfl rfl _ _ (R1.out W3 g3.out) (step_size _ _ _ _ _ _ _) rfl (step_one _ _ _ _ _ _ _) ?_))
  exact step_ret rfl (HE.out W3 g3.out).1 rfl rfl (HE.out W3 g3.out).2
set_option maxRecDepth 100000 in
set_option maxHeartbeats 4000000 in
theorem rst_key_small (hW : Ru w b 0 5 cap [v, x, f, e, y]) (hv : v ≠ vb_cas) (lf : f.length ≤ 5000) (le : e.length ≤ 5000) (ly : y.length ≤ 5000) (hk : keyN x = false) (hy : dec y = some u) (hu : u ≤ 1073741824) (used : Nat) : Calls Tryd.prog 20 #[.slice (some ⟨b, 0, none⟩) 5 cap, .bool q, .int .i64 (used : Int), .slice a len cp] w fun e w' => REnd b ({ refuseS t_bad (used : Int) with skip := (u : Int) + 2 }) w e w' := by
  have hb := hW.lt
  have hn := hW.n
  obtain ⟨W0, B⟩ := begS_of w
  have b0 := (hW.on B.gr).at0 0 (by simp)
  have b1 := (hW.on B.gr).at0 1 (by simp)
  have b2 := (hW.on B.gr).at0 2 (by simp)
  have b3 := (hW.on B.gr).at0 3 (by simp)
  have b4 := (hW.on B.gr).at0 4 (by simp)
  have eW := B.eW
  have HB := hide B
  have hl0 : w.heap.size < W0.heap.size := by have := B.z; omega
  have hvb : (v == vb_cas) = false := by rw [beq_eq_false_iff_ne]; exact hv
  simp only [vb_cas] at hvb
  clear hv
  have HK := hide (fun W => rkey_any (mkB x) W)
  rw [mkB_list, hk] at HK
  simp only [mkB] at HK
  clear hk
  have D4 := hide (fun W => rdec_any y (by omega) W)
  rw [show decV y = (u : Int) by rw [decV, hy]; rfl, show decB y = true by rw [decB, hy]; rfl] at D4
  simp only [mkB] at D4
  clear hy
  have hui := hui_of hu
  have hus := hus_of hu
  have hus2 := hus2_of hu
  have D2 := hide (fun W => rdec_any f (by omega) W)
  obtain ⟨D2v, D2b, D2e⟩ : ∃ i j, decV f = i ∧ decB f = j := ⟨_, _, rfl, rfl⟩
  rw [D2e.1, D2e.2] at D2
  clear D2e
  simp only [mkB] at D2
  have S3 := hide (fun W => rsgn_any e (by omega) W)
  obtain ⟨S3v, S3b, S3e⟩ : ∃ i j, sgnV e = i ∧ sgnB e = j := ⟨_, _, rfl, rfl⟩
  rw [S3e.1, S3e.2] at S3
  clear S3e
  simp only [mkB] at S3
  have D5 := hide (fun W => rdec_any [48] (by decide) W)
  rw [dec48.1, dec48.2] at D5
  simp only [mkB] at D5
  have HF := hide (fun W => rfault_any t_bad (by decide) (used : Int) W)
  have HM := hide (fun (w4 W2 : World) (O : Nat) => out_mid (W0 := W0) (w4 := w4) (W2 := W2) (B := O) (used := (used : Int)) ((u : Int) + 2))
  simp only [List.getElem_cons_zero, List.getElem_cons_succ, mkB] at b0 b1 b2 b3 b4
  have HE := hide (fun (W : World) (g : W0.grownBy W none) => r_bare (w := w) (W := W) (b := b) (s := { refuseS t_bad (used : Int) with skip := (u : Int) + 2 }) hb rfl ((g.block _ hl0 (by simp)).trans HB.out.res) (gr_trans HB.out.gr g))
  have R1 := hide (fun (W : World) (g : W0.grownBy W none) => (g.block _ hl0 (by simp)).trans HB.out.res)
  clear B hb hW hl0 hn lf le ly hu
  go_enter Tryd.func20, Tryd.ntmps20
  go_wp2_with (first
    | (go_at_call 37; have t := D4; clear t; refine (D4.out _).mono ?_; rintro e w8 ⟨rfl, rfl⟩; clear D4)
    | (go_at_call 38; refine (HK.out _).mono ?_; rintro e w9 ⟨rfl, rfl⟩)
    | (go_at_call 37; have t := D2; clear t; refine (D2.out _).mono ?_; rintro e w8 ⟨rfl, rfl⟩; clear D2)
    | (go_at_call 35; refine (S3.out _).mono ?_; rintro e w8 ⟨rfl, rfl⟩)
    | (go_at_call 37; have t := D5; clear t; refine (D5.out _).mono ?_; rintro e w8 ⟨rfl, rfl⟩; clear D5)
    | (go_at_call 34; refine (rbad_any _).mono ?_; rintro e w7 ⟨rfl, rfl⟩)
    | (go_at_call 14; have t := HF; clear t; refine (HF.out _).mono ?_; rintro e w4 ⟨rfl, g4⟩; obtain ⟨O, hO⟩ : ∃ O, O = w4.heap.size := ⟨_, rfl⟩; obtain ⟨W2, hW2⟩ : ∃ W2, W2 = w4.alloc (.cells (stC (refuseS t_bad (used : Int)) none 0 none 0 none 0) 34) := ⟨_, rfl⟩; obtain ⟨o2, y2, n3, g3, l3⟩ := HM.out w4 W2 O g4 hW2 hO; obtain ⟨W3, hW3⟩ : ∃ W3, W3 = W2.setCell ⟨O, 13, none⟩ (.int .i64 ((u : Int) + 2)) := ⟨_, rfl⟩; rw [← hW3] at n3 g3; have e3 := hW3.symm;  replace n3 := hide n3; replace g3 := hide g3; replace l3 := hide l3; have M1 : Hid (w = w) := rfl; clear g4 hW3 HM HF)
    | (have t := M1; clear t; refine wpList_store_row rfl 34 _ _ rfl w4.heap.size (stC (refuseS t_bad (used : Int)) none 0 none 0 none 0) rfl rfl _ _ (World.alloc_heap_new w4 _) (step_size _ _ _ _ _ _ _) rfl (step_one _ _ _ _ _ _ _) ?_; rw [setRow_alloc, ← hW2, ← hO]; clear M1 hW2 hO; have M2 : Hid (w = w) := rfl)
    | (have t := M2; clear t; refine wpList_load_row rfl 34 _ rfl O rfl _ (stC ({ refuseS t_bad (used : Int) with skip := (u : Int) + 2 }) none 0 none 0 none 0) _ _ n3.out Tryd.underlying34 rfl (step_size _ _ _ _ _ _ _) ?_; clear M2)
    | (refine wpList_store_row rfl 34 _ _ rfl w.heap.size (stC ({ refuseS t_bad (used : Int) with skip := (u : Int) + 2 }) none 0 none 0 none 0) rfl rfl _ _ (R1.out W3 g3.out) (step_size _ _ _ _ _ _ _) rfl (step_one _ _ _ _ _ _ _) ?_))
  exact step_ret rfl (HE.out W3 g3.out).1 rfl rfl (HE.out W3 g3.out).2
set_option maxRecDepth 100000 in
set_option maxHeartbeats 4000000 in
theorem rst_key_big (hW : Ru w b 0 5 cap [v, x, f, e, y]) (hv : v ≠ vb_cas) (lf : f.length ≤ 5000) (le : e.length ≤ 5000) (ly : y.length ≤ 5000) (hk : keyN x = false) (hy : dec y = some u) (hu : 1073741824 < u) (used : Nat) : Calls Tryd.prog 20 #[.slice (some ⟨b, 0, none⟩) 5 cap, .bool q, .int .i64 (used : Int), .slice a len cp] w fun e w' => REnd b ({ refuseS t_bad (used : Int) with skip := 0 }) w e w' := by
  have hb := hW.lt
  have hn := hW.n
  obtain ⟨W0, B⟩ := begS_of w
  have b0 := (hW.on B.gr).at0 0 (by simp)
  have b1 := (hW.on B.gr).at0 1 (by simp)
  have b2 := (hW.on B.gr).at0 2 (by simp)
  have b3 := (hW.on B.gr).at0 3 (by simp)
  have b4 := (hW.on B.gr).at0 4 (by simp)
  have eW := B.eW
  have HB := hide B
  have hl0 : w.heap.size < W0.heap.size := by have := B.z; omega
  have hvb : (v == vb_cas) = false := by rw [beq_eq_false_iff_ne]; exact hv
  simp only [vb_cas] at hvb
  clear hv
  have HK := hide (fun W => rkey_any (mkB x) W)
  rw [mkB_list, hk] at HK
  simp only [mkB] at HK
  clear hk
  have D4 := hide (fun W => rdec_any y (by omega) W)
  rw [show decV y = (u : Int) by rw [decV, hy]; rfl, show decB y = true by rw [decB, hy]; rfl] at D4
  simp only [mkB] at D4
  clear hy
  have hui := hui_no hu
  have D2 := hide (fun W => rdec_any f (by omega) W)
  obtain ⟨D2v, D2b, D2e⟩ : ∃ i j, decV f = i ∧ decB f = j := ⟨_, _, rfl, rfl⟩
  rw [D2e.1, D2e.2] at D2
  clear D2e
  simp only [mkB] at D2
  have S3 := hide (fun W => rsgn_any e (by omega) W)
  obtain ⟨S3v, S3b, S3e⟩ : ∃ i j, sgnV e = i ∧ sgnB e = j := ⟨_, _, rfl, rfl⟩
  rw [S3e.1, S3e.2] at S3
  clear S3e
  simp only [mkB] at S3
  have D5 := hide (fun W => rdec_any [48] (by decide) W)
  rw [dec48.1, dec48.2] at D5
  simp only [mkB] at D5
  have HF := hide (fun W => rfault_any t_bad (by decide) (used : Int) W)
  have HM := hide (fun (w4 W2 : World) (O : Nat) => out_mid (W0 := W0) (w4 := w4) (W2 := W2) (B := O) (used := (used : Int)) (0))
  simp only [List.getElem_cons_zero, List.getElem_cons_succ, mkB] at b0 b1 b2 b3 b4
  have HE := hide (fun (W : World) (g : W0.grownBy W none) => r_bare (w := w) (W := W) (b := b) (s := { refuseS t_bad (used : Int) with skip := 0 }) hb rfl ((g.block _ hl0 (by simp)).trans HB.out.res) (gr_trans HB.out.gr g))
  have R1 := hide (fun (W : World) (g : W0.grownBy W none) => (g.block _ hl0 (by simp)).trans HB.out.res)
  clear B hb hW hl0 hn lf le ly hu
  go_enter Tryd.func20, Tryd.ntmps20
  go_wp2_with (first
    | (go_at_call 37; have t := D4; clear t; refine (D4.out _).mono ?_; rintro e w8 ⟨rfl, rfl⟩; clear D4)
    | (go_at_call 38; refine (HK.out _).mono ?_; rintro e w9 ⟨rfl, rfl⟩)
    | (go_at_call 37; have t := D2; clear t; refine (D2.out _).mono ?_; rintro e w8 ⟨rfl, rfl⟩; clear D2)
    | (go_at_call 35; refine (S3.out _).mono ?_; rintro e w8 ⟨rfl, rfl⟩)
    | (go_at_call 37; have t := D5; clear t; refine (D5.out _).mono ?_; rintro e w8 ⟨rfl, rfl⟩; clear D5)
    | (go_at_call 34; refine (rbad_any _).mono ?_; rintro e w7 ⟨rfl, rfl⟩)
    | (go_at_call 14; have t := HF; clear t; refine (HF.out _).mono ?_; rintro e w4 ⟨rfl, g4⟩; obtain ⟨O, hO⟩ : ∃ O, O = w4.heap.size := ⟨_, rfl⟩; obtain ⟨W2, hW2⟩ : ∃ W2, W2 = w4.alloc (.cells (stC (refuseS t_bad (used : Int)) none 0 none 0 none 0) 34) := ⟨_, rfl⟩; obtain ⟨o2, y2, n3, g3, l3⟩ := HM.out w4 W2 O g4 hW2 hO; obtain ⟨W3, hW3⟩ : ∃ W3, W3 = W2.setCell ⟨O, 13, none⟩ (.int .i64 (0)) := ⟨_, rfl⟩; rw [← hW3] at n3 g3; have e3 := hW3.symm;  replace n3 := hide n3; replace g3 := hide g3; replace l3 := hide l3; have M1 : Hid (w = w) := rfl; clear g4 hW3 HM HF)
    | (have t := M1; clear t; refine wpList_store_row rfl 34 _ _ rfl w4.heap.size (stC (refuseS t_bad (used : Int)) none 0 none 0 none 0) rfl rfl _ _ (World.alloc_heap_new w4 _) (step_size _ _ _ _ _ _ _) rfl (step_one _ _ _ _ _ _ _) ?_; rw [setRow_alloc, ← hW2, ← hO]; clear M1 hW2 hO; have M2 : Hid (w = w) := rfl)
    | (have t := M2; clear t; refine wpList_load_row rfl 34 _ rfl O rfl _ (stC ({ refuseS t_bad (used : Int) with skip := 0 }) none 0 none 0 none 0) _ _ n3.out Tryd.underlying34 rfl (step_size _ _ _ _ _ _ _) ?_; clear M2)
    | (refine wpList_store_row rfl 34 _ _ rfl w.heap.size (stC ({ refuseS t_bad (used : Int) with skip := 0 }) none 0 none 0 none 0) rfl rfl _ _ (R1.out W3 g3.out) (step_size _ _ _ _ _ _ _) rfl (step_one _ _ _ _ _ _ _) ?_))
  exact step_ret rfl (HE.out W3 g3.out).1 rfl rfl (HE.out W3 g3.out).2
set_option maxRecDepth 100000 in
set_option maxHeartbeats 4000000 in
theorem rst_fnone_none (hW : Ru w b 0 5 cap [v, x, f, e, y]) (hv : v ≠ vb_cas) (lf : f.length ≤ 5000) (le : e.length ≤ 5000) (ly : y.length ≤ 5000) (hk : keyN x = true) (hy : dec y = none) (hf : dec f = none) (used : Nat) : Calls Tryd.prog 20 #[.slice (some ⟨b, 0, none⟩) 5 cap, .bool q, .int .i64 (used : Int), .slice a len cp] w fun e w' => REnd b ({ refuseS t_bad (used : Int) with skip := 0 }) w e w' := by
  have hb := hW.lt
  have hn := hW.n
  obtain ⟨W0, B⟩ := begS_of w
  have b0 := (hW.on B.gr).at0 0 (by simp)
  have b1 := (hW.on B.gr).at0 1 (by simp)
  have b2 := (hW.on B.gr).at0 2 (by simp)
  have b3 := (hW.on B.gr).at0 3 (by simp)
  have b4 := (hW.on B.gr).at0 4 (by simp)
  have eW := B.eW
  have HB := hide B
  have hl0 : w.heap.size < W0.heap.size := by have := B.z; omega
  have hvb : (v == vb_cas) = false := by rw [beq_eq_false_iff_ne]; exact hv
  simp only [vb_cas] at hvb
  clear hv
  have HK := hide (fun W => rkey_any (mkB x) W)
  rw [mkB_list, hk] at HK
  simp only [mkB] at HK
  clear hk
  have D4 := hide (fun W => rdec_any y (by omega) W)
  rw [show decV y = 0 by rw [decV, hy]; rfl, show decB y = false by rw [decB, hy]; rfl] at D4
  simp only [mkB] at D4
  clear hy
  have D2 := hide (fun W => rdec_any f (by omega) W)
  rw [show decV f = 0 by rw [decV, hf]; rfl, show decB f = false by rw [decB, hf]; rfl] at D2
  simp only [mkB] at D2
  clear hf
  have S3 := hide (fun W => rsgn_any e (by omega) W)
  obtain ⟨S3v, S3b, S3e⟩ : ∃ i j, sgnV e = i ∧ sgnB e = j := ⟨_, _, rfl, rfl⟩
  rw [S3e.1, S3e.2] at S3
  clear S3e
  simp only [mkB] at S3
  have D5 := hide (fun W => rdec_any [48] (by decide) W)
  rw [dec48.1, dec48.2] at D5
  simp only [mkB] at D5
  have HF := hide (fun W => rfault_any t_bad (by decide) (used : Int) W)
  have HM := hide (fun (w4 W2 : World) (O : Nat) => out_mid (W0 := W0) (w4 := w4) (W2 := W2) (B := O) (used := (used : Int)) (0))
  simp only [List.getElem_cons_zero, List.getElem_cons_succ, mkB] at b0 b1 b2 b3 b4
  have HE := hide (fun (W : World) (g : W0.grownBy W none) => r_bare (w := w) (W := W) (b := b) (s := { refuseS t_bad (used : Int) with skip := 0 }) hb rfl ((g.block _ hl0 (by simp)).trans HB.out.res) (gr_trans HB.out.gr g))
  have R1 := hide (fun (W : World) (g : W0.grownBy W none) => (g.block _ hl0 (by simp)).trans HB.out.res)
  clear B hb hW hl0 hn lf le ly
  go_enter Tryd.func20, Tryd.ntmps20
  go_wp2_with (first
    | (go_at_call 37; have t := D4; clear t; refine (D4.out _).mono ?_; rintro e w8 ⟨rfl, rfl⟩; clear D4)
    | (go_at_call 38; refine (HK.out _).mono ?_; rintro e w9 ⟨rfl, rfl⟩)
    | (go_at_call 37; have t := D2; clear t; refine (D2.out _).mono ?_; rintro e w8 ⟨rfl, rfl⟩; clear D2)
    | (go_at_call 35; refine (S3.out _).mono ?_; rintro e w8 ⟨rfl, rfl⟩)
    | (go_at_call 37; have t := D5; clear t; refine (D5.out _).mono ?_; rintro e w8 ⟨rfl, rfl⟩; clear D5)
    | (go_at_call 34; refine (rbad_any _).mono ?_; rintro e w7 ⟨rfl, rfl⟩)
    | (go_at_call 14; have t := HF; clear t; refine (HF.out _).mono ?_; rintro e w4 ⟨rfl, g4⟩; obtain ⟨O, hO⟩ : ∃ O, O = w4.heap.size := ⟨_, rfl⟩; obtain ⟨W2, hW2⟩ : ∃ W2, W2 = w4.alloc (.cells (stC (refuseS t_bad (used : Int)) none 0 none 0 none 0) 34) := ⟨_, rfl⟩; obtain ⟨o2, y2, n3, g3, l3⟩ := HM.out w4 W2 O g4 hW2 hO; obtain ⟨W3, hW3⟩ : ∃ W3, W3 = W2.setCell ⟨O, 13, none⟩ (.int .i64 (0)) := ⟨_, rfl⟩; rw [← hW3] at n3 g3; have e3 := hW3.symm;  replace n3 := hide n3; replace g3 := hide g3; replace l3 := hide l3; have M1 : Hid (w = w) := rfl; clear g4 hW3 HM HF)
    | (have t := M1; clear t; refine wpList_store_row rfl 34 _ _ rfl w4.heap.size (stC (refuseS t_bad (used : Int)) none 0 none 0 none 0) rfl rfl _ _ (World.alloc_heap_new w4 _) (step_size _ _ _ _ _ _ _) rfl (step_one _ _ _ _ _ _ _) ?_; rw [setRow_alloc, ← hW2, ← hO]; clear M1 hW2 hO; have M2 : Hid (w = w) := rfl)
    | (have t := M2; clear t; refine wpList_load_row rfl 34 _ rfl O rfl _ (stC ({ refuseS t_bad (used : Int) with skip := 0 }) none 0 none 0 none 0) _ _ n3.out Tryd.underlying34 rfl (step_size _ _ _ _ _ _ _) ?_; clear M2)
    | (refine wpList_store_row rfl 34 _ _ rfl w.heap.size (stC ({ refuseS t_bad (used : Int) with skip := 0 }) none 0 none 0 none 0) rfl rfl _ _ (R1.out W3 g3.out) (step_size _ _ _ _ _ _ _) rfl (step_one _ _ _ _ _ _ _) ?_))
  exact step_ret rfl (HE.out W3 g3.out).1 rfl rfl (HE.out W3 g3.out).2
set_option maxRecDepth 100000 in
set_option maxHeartbeats 4000000 in
theorem rst_fnone_small (hW : Ru w b 0 5 cap [v, x, f, e, y]) (hv : v ≠ vb_cas) (lf : f.length ≤ 5000) (le : e.length ≤ 5000) (ly : y.length ≤ 5000) (hk : keyN x = true) (hy : dec y = some u) (hu : u ≤ 1073741824) (hf : dec f = none) (used : Nat) : Calls Tryd.prog 20 #[.slice (some ⟨b, 0, none⟩) 5 cap, .bool q, .int .i64 (used : Int), .slice a len cp] w fun e w' => REnd b ({ refuseS t_bad (used : Int) with skip := (u : Int) + 2 }) w e w' := by
  have hb := hW.lt
  have hn := hW.n
  obtain ⟨W0, B⟩ := begS_of w
  have b0 := (hW.on B.gr).at0 0 (by simp)
  have b1 := (hW.on B.gr).at0 1 (by simp)
  have b2 := (hW.on B.gr).at0 2 (by simp)
  have b3 := (hW.on B.gr).at0 3 (by simp)
  have b4 := (hW.on B.gr).at0 4 (by simp)
  have eW := B.eW
  have HB := hide B
  have hl0 : w.heap.size < W0.heap.size := by have := B.z; omega
  have hvb : (v == vb_cas) = false := by rw [beq_eq_false_iff_ne]; exact hv
  simp only [vb_cas] at hvb
  clear hv
  have HK := hide (fun W => rkey_any (mkB x) W)
  rw [mkB_list, hk] at HK
  simp only [mkB] at HK
  clear hk
  have D4 := hide (fun W => rdec_any y (by omega) W)
  rw [show decV y = (u : Int) by rw [decV, hy]; rfl, show decB y = true by rw [decB, hy]; rfl] at D4
  simp only [mkB] at D4
  clear hy
  have hui := hui_of hu
  have hus := hus_of hu
  have hus2 := hus2_of hu
  have D2 := hide (fun W => rdec_any f (by omega) W)
  rw [show decV f = 0 by rw [decV, hf]; rfl, show decB f = false by rw [decB, hf]; rfl] at D2
  simp only [mkB] at D2
  clear hf
  have S3 := hide (fun W => rsgn_any e (by omega) W)
  obtain ⟨S3v, S3b, S3e⟩ : ∃ i j, sgnV e = i ∧ sgnB e = j := ⟨_, _, rfl, rfl⟩
  rw [S3e.1, S3e.2] at S3
  clear S3e
  simp only [mkB] at S3
  have D5 := hide (fun W => rdec_any [48] (by decide) W)
  rw [dec48.1, dec48.2] at D5
  simp only [mkB] at D5
  have HF := hide (fun W => rfault_any t_bad (by decide) (used : Int) W)
  have HM := hide (fun (w4 W2 : World) (O : Nat) => out_mid (W0 := W0) (w4 := w4) (W2 := W2) (B := O) (used := (used : Int)) ((u : Int) + 2))
  simp only [List.getElem_cons_zero, List.getElem_cons_succ, mkB] at b0 b1 b2 b3 b4
  have HE := hide (fun (W : World) (g : W0.grownBy W none) => r_bare (w := w) (W := W) (b := b) (s := { refuseS t_bad (used : Int) with skip := (u : Int) + 2 }) hb rfl ((g.block _ hl0 (by simp)).trans HB.out.res) (gr_trans HB.out.gr g))
  have R1 := hide (fun (W : World) (g : W0.grownBy W none) => (g.block _ hl0 (by simp)).trans HB.out.res)
  clear B hb hW hl0 hn lf le ly hu
  go_enter Tryd.func20, Tryd.ntmps20
  go_wp2_with (first
    | (go_at_call 37; have t := D4; clear t; refine (D4.out _).mono ?_; rintro e w8 ⟨rfl, rfl⟩; clear D4)
    | (go_at_call 38; refine (HK.out _).mono ?_; rintro e w9 ⟨rfl, rfl⟩)
    | (go_at_call 37; have t := D2; clear t; refine (D2.out _).mono ?_; rintro e w8 ⟨rfl, rfl⟩; clear D2)
    | (go_at_call 35; refine (S3.out _).mono ?_; rintro e w8 ⟨rfl, rfl⟩)
    | (go_at_call 37; have t := D5; clear t; refine (D5.out _).mono ?_; rintro e w8 ⟨rfl, rfl⟩; clear D5)
    | (go_at_call 34; refine (rbad_any _).mono ?_; rintro e w7 ⟨rfl, rfl⟩)
    | (go_at_call 14; have t := HF; clear t; refine (HF.out _).mono ?_; rintro e w4 ⟨rfl, g4⟩; obtain ⟨O, hO⟩ : ∃ O, O = w4.heap.size := ⟨_, rfl⟩; obtain ⟨W2, hW2⟩ : ∃ W2, W2 = w4.alloc (.cells (stC (refuseS t_bad (used : Int)) none 0 none 0 none 0) 34) := ⟨_, rfl⟩; obtain ⟨o2, y2, n3, g3, l3⟩ := HM.out w4 W2 O g4 hW2 hO; obtain ⟨W3, hW3⟩ : ∃ W3, W3 = W2.setCell ⟨O, 13, none⟩ (.int .i64 ((u : Int) + 2)) := ⟨_, rfl⟩; rw [← hW3] at n3 g3; have e3 := hW3.symm;  replace n3 := hide n3; replace g3 := hide g3; replace l3 := hide l3; have M1 : Hid (w = w) := rfl; clear g4 hW3 HM HF)
    | (have t := M1; clear t; refine wpList_store_row rfl 34 _ _ rfl w4.heap.size (stC (refuseS t_bad (used : Int)) none 0 none 0 none 0) rfl rfl _ _ (World.alloc_heap_new w4 _) (step_size _ _ _ _ _ _ _) rfl (step_one _ _ _ _ _ _ _) ?_; rw [setRow_alloc, ← hW2, ← hO]; clear M1 hW2 hO; have M2 : Hid (w = w) := rfl)
    | (have t := M2; clear t; refine wpList_load_row rfl 34 _ rfl O rfl _ (stC ({ refuseS t_bad (used : Int) with skip := (u : Int) + 2 }) none 0 none 0 none 0) _ _ n3.out Tryd.underlying34 rfl (step_size _ _ _ _ _ _ _) ?_; clear M2)
    | (refine wpList_store_row rfl 34 _ _ rfl w.heap.size (stC ({ refuseS t_bad (used : Int) with skip := (u : Int) + 2 }) none 0 none 0 none 0) rfl rfl _ _ (R1.out W3 g3.out) (step_size _ _ _ _ _ _ _) rfl (step_one _ _ _ _ _ _ _) ?_))
  exact step_ret rfl (HE.out W3 g3.out).1 rfl rfl (HE.out W3 g3.out).2
set_option maxRecDepth 100000 in
set_option maxHeartbeats 4000000 in
theorem rst_fnone_big (hW : Ru w b 0 5 cap [v, x, f, e, y]) (hv : v ≠ vb_cas) (lf : f.length ≤ 5000) (le : e.length ≤ 5000) (ly : y.length ≤ 5000) (hk : keyN x = true) (hy : dec y = some u) (hu : 1073741824 < u) (hf : dec f = none) (used : Nat) : Calls Tryd.prog 20 #[.slice (some ⟨b, 0, none⟩) 5 cap, .bool q, .int .i64 (used : Int), .slice a len cp] w fun e w' => REnd b ({ refuseS t_bad (used : Int) with skip := 0 }) w e w' := by
  have hb := hW.lt
  have hn := hW.n
  obtain ⟨W0, B⟩ := begS_of w
  have b0 := (hW.on B.gr).at0 0 (by simp)
  have b1 := (hW.on B.gr).at0 1 (by simp)
  have b2 := (hW.on B.gr).at0 2 (by simp)
  have b3 := (hW.on B.gr).at0 3 (by simp)
  have b4 := (hW.on B.gr).at0 4 (by simp)
  have eW := B.eW
  have HB := hide B
  have hl0 : w.heap.size < W0.heap.size := by have := B.z; omega
  have hvb : (v == vb_cas) = false := by rw [beq_eq_false_iff_ne]; exact hv
  simp only [vb_cas] at hvb
  clear hv
  have HK := hide (fun W => rkey_any (mkB x) W)
  rw [mkB_list, hk] at HK
  simp only [mkB] at HK
  clear hk
  have D4 := hide (fun W => rdec_any y (by omega) W)
  rw [show decV y = (u : Int) by rw [decV, hy]; rfl, show decB y = true by rw [decB, hy]; rfl] at D4
  simp only [mkB] at D4
  clear hy
  have hui := hui_no hu
  have D2 := hide (fun W => rdec_any f (by omega) W)
  rw [show decV f = 0 by rw [decV, hf]; rfl, show decB f = false by rw [decB, hf]; rfl] at D2
  simp only [mkB] at D2
  clear hf
  have S3 := hide (fun W => rsgn_any e (by omega) W)
  obtain ⟨S3v, S3b, S3e⟩ : ∃ i j, sgnV e = i ∧ sgnB e = j := ⟨_, _, rfl, rfl⟩
  rw [S3e.1, S3e.2] at S3
  clear S3e
  simp only [mkB] at S3
  have D5 := hide (fun W => rdec_any [48] (by decide) W)
  rw [dec48.1, dec48.2] at D5
  simp only [mkB] at D5
  have HF := hide (fun W => rfault_any t_bad (by decide) (used : Int) W)
  have HM := hide (fun (w4 W2 : World) (O : Nat) => out_mid (W0 := W0) (w4 := w4) (W2 := W2) (B := O) (used := (used : Int)) (0))
  simp only [List.getElem_cons_zero, List.getElem_cons_succ, mkB] at b0 b1 b2 b3 b4
  have HE := hide (fun (W : World) (g : W0.grownBy W none) => r_bare (w := w) (W := W) (b := b) (s := { refuseS t_bad (used : Int) with skip := 0 }) hb rfl ((g.block _ hl0 (by simp)).trans HB.out.res) (gr_trans HB.out.gr g))
  have R1 := hide (fun (W : World) (g : W0.grownBy W none) => (g.block _ hl0 (by simp)).trans HB.out.res)
  clear B hb hW hl0 hn lf le ly hu
  go_enter Tryd.func20, Tryd.ntmps20
  go_wp2_with (first
    | (go_at_call 37; have t := D4; clear t; refine (D4.out _).mono ?_; rintro e w8 ⟨rfl, rfl⟩; clear D4)
    | (go_at_call 38; refine (HK.out _).mono ?_; rintro e w9 ⟨rfl, rfl⟩)
    | (go_at_call 37; have t := D2; clear t; refine (D2.out _).mono ?_; rintro e w8 ⟨rfl, rfl⟩; clear D2)
    | (go_at_call 35; refine (S3.out _).mono ?_; rintro e w8 ⟨rfl, rfl⟩)
    | (go_at_call 37; have t := D5; clear t; refine (D5.out _).mono ?_; rintro e w8 ⟨rfl, rfl⟩; clear D5)
    | (go_at_call 34; refine (rbad_any _).mono ?_; rintro e w7 ⟨rfl, rfl⟩)
    | (go_at_call 14; have t := HF; clear t; refine (HF.out _).mono ?_; rintro e w4 ⟨rfl, g4⟩; obtain ⟨O, hO⟩ : ∃ O, O = w4.heap.size := ⟨_, rfl⟩; obtain ⟨W2, hW2⟩ : ∃ W2, W2 = w4.alloc (.cells (stC (refuseS t_bad (used : Int)) none 0 none 0 none 0) 34) := ⟨_, rfl⟩; obtain ⟨o2, y2, n3, g3, l3⟩ := HM.out w4 W2 O g4 hW2 hO; obtain ⟨W3, hW3⟩ : ∃ W3, W3 = W2.setCell ⟨O, 13, none⟩ (.int .i64 (0)) := ⟨_, rfl⟩; rw [← hW3] at n3 g3; have e3 := hW3.symm;  replace n3 := hide n3; replace g3 := hide g3; replace l3 := hide l3; have M1 : Hid (w = w) := rfl; clear g4 hW3 HM HF)
    | (have t := M1; clear t; refine wpList_store_row rfl 34 _ _ rfl w4.heap.size (stC (refuseS t_bad (used : Int)) none 0 none 0 none 0) rfl rfl _ _ (World.alloc_heap_new w4 _) (step_size _ _ _ _ _ _ _) rfl (step_one _ _ _ _ _ _ _) ?_; rw [setRow_alloc, ← hW2, ← hO]; clear M1 hW2 hO; have M2 : Hid (w = w) := rfl)
    | (have t := M2; clear t; refine wpList_load_row rfl 34 _ rfl O rfl _ (stC ({ refuseS t_bad (used : Int) with skip := 0 }) none 0 none 0 none 0) _ _ n3.out Tryd.underlying34 rfl (step_size _ _ _ _ _ _ _) ?_; clear M2)
    | (refine wpList_store_row rfl 34 _ _ rfl w.heap.size (stC ({ refuseS t_bad (used : Int) with skip := 0 }) none 0 none 0 none 0) rfl rfl _ _ (R1.out W3 g3.out) (step_size _ _ _ _ _ _ _) rfl (step_one _ _ _ _ _ _ _) ?_))
  exact step_ret rfl (HE.out W3 g3.out).1 rfl rfl (HE.out W3 g3.out).2
set_option maxRecDepth 100000 in
set_option maxHeartbeats 4000000 in
theorem rst_fbig_none (hW : Ru w b 0 5 cap [v, x, f, e, y]) (hv : v ≠ vb_cas) (lf : f.length ≤ 5000) (le : e.length ≤ 5000) (ly : y.length ≤ 5000) (hk : keyN x = true) (hy : dec y = none) (hf : dec f = some fu) (hfu : 4294967295 < fu) (used : Nat) : Calls Tryd.prog 20 #[.slice (some ⟨b, 0, none⟩) 5 cap, .bool q, .int .i64 (used : Int), .slice a len cp] w fun e w' => REnd b ({ refuseS t_bad (used : Int) with skip := 0 }) w e w' := by
  have hb := hW.lt
  have hn := hW.n
  obtain ⟨W0, B⟩ := begS_of w
  have b0 := (hW.on B.gr).at0 0 (by simp)
  have b1 := (hW.on B.gr).at0 1 (by simp)
  have b2 := (hW.on B.gr).at0 2 (by simp)
  have b3 := (hW.on B.gr).at0 3 (by simp)
  have b4 := (hW.on B.gr).at0 4 (by simp)
  have eW := B.eW
  have HB := hide B
  have hl0 : w.heap.size < W0.heap.size := by have := B.z; omega
  have hvb : (v == vb_cas) = false := by rw [beq_eq_false_iff_ne]; exact hv
  simp only [vb_cas] at hvb
  clear hv
  have HK := hide (fun W => rkey_any (mkB x) W)
  rw [mkB_list, hk] at HK
  simp only [mkB] at HK
  clear hk
  have D4 := hide (fun W => rdec_any y (by omega) W)
  rw [show decV y = 0 by rw [decV, hy]; rfl, show decB y = false by rw [decB, hy]; rfl] at D4
  simp only [mkB] at D4
  clear hy
  have D2 := hide (fun W => rdec_any f (by omega) W)
  rw [show decV f = (fu : Int) by rw [decV, hf]; rfl, show decB f = true by rw [decB, hf]; rfl] at D2
  simp only [mkB] at D2
  have hfi := hfi_of hfu
  clear hf
  have S3 := hide (fun W => rsgn_any e (by omega) W)
  obtain ⟨S3v, S3b, S3e⟩ : ∃ i j, sgnV e = i ∧ sgnB e = j := ⟨_, _, rfl, rfl⟩
  rw [S3e.1, S3e.2] at S3
  clear S3e
  simp only [mkB] at S3
  have D5 := hide (fun W => rdec_any [48] (by decide) W)
  rw [dec48.1, dec48.2] at D5
  simp only [mkB] at D5
  have HF := hide (fun W => rfault_any t_bad (by decide) (used : Int) W)
  have HM := hide (fun (w4 W2 : World) (O : Nat) => out_mid (W0 := W0) (w4 := w4) (W2 := W2) (B := O) (used := (used : Int)) (0))
  simp only [List.getElem_cons_zero, List.getElem_cons_succ, mkB] at b0 b1 b2 b3 b4
  have HE := hide (fun (W : World) (g : W0.grownBy W none) => r_bare (w := w) (W := W) (b := b) (s := { refuseS t_bad (used : Int) with skip := 0 }) hb rfl ((g.block _ hl0 (by simp)).trans HB.out.res) (gr_trans HB.out.gr g))
  have R1 := hide (fun (W : World) (g : W0.grownBy W none) => (g.block _ hl0 (by simp)).trans HB.out.res)
  clear B hb hW hl0 hn lf le ly hfu
  go_enter Tryd.func20, Tryd.ntmps20
  go_wp2_with (first
    | (go_at_call 37; have t := D4; clear t; refine (D4.out _).mono ?_; rintro e w8 ⟨rfl, rfl⟩; clear D4)
    | (go_at_call 38; refine (HK.out _).mono ?_; rintro e w9 ⟨rfl, rfl⟩)
    | (go_at_call 37; have t := D2; clear t; refine (D2.out _).mono ?_; rintro e w8 ⟨rfl, rfl⟩; clear D2)
    | (go_at_call 35; refine (S3.out _).mono ?_; rintro e w8 ⟨rfl, rfl⟩)
    | (go_at_call 37; have t := D5; clear t; refine (D5.out _).mono ?_; rintro e w8 ⟨rfl, rfl⟩; clear D5)
    | (go_at_call 34; refine (rbad_any _).mono ?_; rintro e w7 ⟨rfl, rfl⟩)
    | (go_at_call 14; have t := HF; clear t; refine (HF.out _).mono ?_; rintro e w4 ⟨rfl, g4⟩; obtain ⟨O, hO⟩ : ∃ O, O = w4.heap.size := ⟨_, rfl⟩; obtain ⟨W2, hW2⟩ : ∃ W2, W2 = w4.alloc (.cells (stC (refuseS t_bad (used : Int)) none 0 none 0 none 0) 34) := ⟨_, rfl⟩; obtain ⟨o2, y2, n3, g3, l3⟩ := HM.out w4 W2 O g4 hW2 hO; obtain ⟨W3, hW3⟩ : ∃ W3, W3 = W2.setCell ⟨O, 13, none⟩ (.int .i64 (0)) := ⟨_, rfl⟩; rw [← hW3] at n3 g3; have e3 := hW3.symm;  replace n3 := hide n3; replace g3 := hide g3; replace l3 := hide l3; have M1 : Hid (w = w) := rfl; clear g4 hW3 HM HF)
    | (have t := M1; clear t; refine wpList_store_row rfl 34 _ _ rfl w4.heap.size (stC (refuseS t_bad (used : Int)) none 0 none 0 none 0) rfl rfl _ _ (World.alloc_heap_new w4 _) (step_size _ _ _ _ _ _ _) rfl (step_one _ _ _ _ _ _ _) ?_; rw [setRow_alloc, ← hW2, ← hO]; clear M1 hW2 hO; have M2 : Hid (w = w) := rfl)
    | (have t := M2; clear t; refine wpList_load_row rfl 34 _ rfl O rfl _ (stC ({ refuseS t_bad (used : Int) with skip := 0 }) none 0 none 0 none 0) _ _ n3.out Tryd.underlying34 rfl (step_size _ _ _ _ _ _ _) ?_; clear M2)
    | (refine wpList_store_row rfl 34 _ _ rfl w.heap.size (stC ({ refuseS t_bad (used : Int) with skip := 0 }) none 0 none 0 none 0) rfl rfl _ _ (R1.out W3 g3.out) (step_size _ _ _ _ _ _ _) rfl (step_one _ _ _ _ _ _ _) ?_))
  exact step_ret rfl (HE.out W3 g3.out).1 rfl rfl (HE.out W3 g3.out).2
set_option maxRecDepth 100000 in
set_option maxHeartbeats 4000000 in
theorem rst_fbig_small (hW : Ru w b 0 5 cap [v, x, f, e, y]) (hv : v ≠ vb_cas) (lf : f.length ≤ 5000) (le : e.length ≤ 5000) (ly : y.length ≤ 5000) (hk : keyN x = true) (hy : dec y = some u) (hu : u ≤ 1073741824) (hf : dec f = some fu) (hfu : 4294967295 < fu) (used : Nat) : Calls Tryd.prog 20 #[.slice (some ⟨b, 0, none⟩) 5 cap, .bool q, .int .i64 (used : Int), .slice a len cp] w fun e w' => REnd b ({ refuseS t_bad (used : Int) with skip := (u : Int) + 2 }) w e w' := by
  have hb := hW.lt
  have hn := hW.n
  obtain ⟨W0, B⟩ := begS_of w
  have b0 := (hW.on B.gr).at0 0 (by simp)
  have b1 := (hW.on B.gr).at0 1 (by simp)
  have b2 := (hW.on B.gr).at0 2 (by simp)
  have b3 := (hW.on B.gr).at0 3 (by simp)
  have b4 := (hW.on B.gr).at0 4 (by simp)
  have eW := B.eW
  have HB := hide B
  have hl0 : w.heap.size < W0.heap.size := by have := B.z; omega
  have hvb : (v == vb_cas) = false := by rw [beq_eq_false_iff_ne]; exact hv
  simp only [vb_cas] at hvb
  clear hv
  have HK := hide (fun W => rkey_any (mkB x) W)
  rw [mkB_list, hk] at HK
  simp only [mkB] at HK
  clear hk
  have D4 := hide (fun W => rdec_any y (by omega) W)
  rw [show decV y = (u : Int) by rw [decV, hy]; rfl, show decB y = true by rw [decB, hy]; rfl] at D4
  simp only [mkB] at D4
  clear hy
  have hui := hui_of hu
  have hus := hus_of hu
  have hus2 := hus2_of hu
  have D2 := hide (fun W => rdec_any f (by omega) W)
  rw [show decV f = (fu : Int) by rw [decV, hf]; rfl, show decB f = true by rw [decB, hf]; rfl] at D2
  simp only [mkB] at D2
  have hfi := hfi_of hfu
  clear hf
  have S3 := hide (fun W => rsgn_any e (by omega) W)
  obtain ⟨S3v, S3b, S3e⟩ : ∃ i j, sgnV e = i ∧ sgnB e = j := ⟨_, _, rfl, rfl⟩
  rw [S3e.1, S3e.2] at S3
  clear S3e
  simp only [mkB] at S3
  have D5 := hide (fun W => rdec_any [48] (by decide) W)
  rw [dec48.1, dec48.2] at D5
  simp only [mkB] at D5
  have HF := hide (fun W => rfault_any t_bad (by decide) (used : Int) W)
  have HM := hide (fun (w4 W2 : World) (O : Nat) => out_mid (W0 := W0) (w4 := w4) (W2 := W2) (B := O) (used := (used : Int)) ((u : Int) + 2))
  simp only [List.getElem_cons_zero, List.getElem_cons_succ, mkB] at b0 b1 b2 b3 b4
  have HE := hide (fun (W : World) (g : W0.grownBy W none) => r_bare (w := w) (W := W) (b := b) (s := { refuseS t_bad (used : Int) with skip := (u : Int) + 2 }) hb rfl ((g.block _ hl0 (by simp)).trans HB.out.res) (gr_trans HB.out.gr g))
  have R1 := hide (fun (W : World) (g : W0.grownBy W none) => (g.block _ hl0 (by simp)).trans HB.out.res)
  clear B hb hW hl0 hn lf le ly hu hfu
  go_enter Tryd.func20, Tryd.ntmps20
  go_wp2_with (first
    | (go_at_call 37; have t := D4; clear t; refine (D4.out _).mono ?_; rintro e w8 ⟨rfl, rfl⟩; clear D4)
    | (go_at_call 38; refine (HK.out _).mono ?_; rintro e w9 ⟨rfl, rfl⟩)
    | (go_at_call 37; have t := D2; clear t; refine (D2.out _).mono ?_; rintro e w8 ⟨rfl, rfl⟩; clear D2)
    | (go_at_call 35; refine (S3.out _).mono ?_; rintro e w8 ⟨rfl, rfl⟩)
    | (go_at_call 37; have t := D5; clear t; refine (D5.out _).mono ?_; rintro e w8 ⟨rfl, rfl⟩; clear D5)
    | (go_at_call 34; refine (rbad_any _).mono ?_; rintro e w7 ⟨rfl, rfl⟩)
    | (go_at_call 14; have t := HF; clear t; refine (HF.out _).mono ?_; rintro e w4 ⟨rfl, g4⟩; obtain ⟨O, hO⟩ : ∃ O, O = w4.heap.size := ⟨_, rfl⟩; obtain ⟨W2, hW2⟩ : ∃ W2, W2 = w4.alloc (.cells (stC (refuseS t_bad (used : Int)) none 0 none 0 none 0) 34) := ⟨_, rfl⟩; obtain ⟨o2, y2, n3, g3, l3⟩ := HM.out w4 W2 O g4 hW2 hO; obtain ⟨W3, hW3⟩ : ∃ W3, W3 = W2.setCell ⟨O, 13, none⟩ (.int .i64 ((u : Int) + 2)) := ⟨_, rfl⟩; rw [← hW3] at n3 g3; have e3 := hW3.symm;  replace n3 := hide n3; replace g3 := hide g3; replace l3 := hide l3; have M1 : Hid (w = w) := rfl; clear g4 hW3 HM HF)
    | (have t := M1; clear t; refine wpList_store_row rfl 34 _ _ rfl w4.heap.size (stC (refuseS t_bad (used : Int)) none 0 none 0 none 0) rfl rfl _ _ (World.alloc_heap_new w4 _) (step_size _ _ _ _ _ _ _) rfl (step_one _ _ _ _ _ _ _) ?_; rw [setRow_alloc, ← hW2, ← hO]; clear M1 hW2 hO; have M2 : Hid (w = w) := rfl)
    | (have t := M2; clear t; refine wpList_load_row rfl 34 _ rfl O rfl _ (stC ({ refuseS t_bad (used : Int) with skip := (u : Int) + 2 }) none 0 none 0 none 0) _ _ n3.out Tryd.underlying34 rfl (step_size _ _ _ _ _ _ _) ?_; clear M2)
    | (refine wpList_store_row rfl 34 _ _ rfl w.heap.size (stC ({ refuseS t_bad (used : Int) with skip := (u : Int) + 2 }) none 0 none 0 none 0) rfl rfl _ _ (R1.out W3 g3.out) (step_size _ _ _ _ _ _ _) rfl (step_one _ _ _ _ _ _ _) ?_))
  exact step_ret rfl (HE.out W3 g3.out).1 rfl rfl (HE.out W3 g3.out).2
end
end Go.Proofs.YtfcmnkhfmofioaaDoor
