/- What an answer of package binout has behind its head, and its number. Conditions: a key of at most 1000 bytes, numbers within their kinds. -/
import Derived.Test.YtaafkefgpgoepaaG37Joined
namespace Go.Proofs.Ytaafkefgpgoepaa
set_option linter.unusedVariables false
set_option linter.unusedSimpArgs false
open Go.RowKit Go.Shelf

section
variable {w : World}
set_option maxRecDepth 100000 in
set_option maxHeartbeats 4000000 in
theorem ptold_put {f : Fv} {ta ka : Option Addr} {tc kc : Nat} {c : Cv} {va : Option Addr} {vc : Nat} {s : Int} {val : List UInt8} {fl cas ttl num : Int} {st won lost : Bool} {ya : Option Addr} {yc : Nat} (hy : Bu w ya val.length yc val) (hk : c.key.size ≤ 1000) (hf : 0 ≤ fl ∧ fl < 4294967296) (hu : 0 ≤ num ∧ num < 18446744073709551616)  :
    Calls Try.prog 17 #[.agg (fmC f ta tc ka kc), .agg (cmC c va vc), .agg (rsC ⟨2, val, fl, cas, ttl, num, st, won, lost⟩ ya yc)] w fun e w' => RdP f c ⟨2, val, fl, cas, ttl, num, st, won, lost⟩ w e w' := by
  obtain ⟨A1, hA1⟩ : ∃ A1, w.alloc (.cells (fmC f ta tc ka kc) 26) = A1 := ⟨_, rfl⟩
  obtain ⟨q1, hq1⟩ : ∃ q, w.heap.size = q := ⟨_, rfl⟩
  obtain ⟨A2, hA2⟩ : ∃ A2, A1.alloc (.cells (cmC c va vc) 48) = A2 := ⟨_, rfl⟩
  obtain ⟨q2, hq2⟩ : ∃ q, A1.heap.size = q := ⟨_, rfl⟩
  obtain ⟨A3, hA3⟩ : ∃ A3, A2.alloc (.cells (rsC ⟨2, val, fl, cas, ttl, num, st, won, lost⟩ ya yc) 46) = A3 := ⟨_, rfl⟩
  obtain ⟨q3, hq3⟩ : ∃ q, A2.heap.size = q := ⟨_, rfl⟩
  obtain ⟨V, hV⟩ : ∃ V, A3.alloc (.cells (pt3 none 0 0 none 0 0 none 0 0) 38) = V := ⟨_, rfl⟩
  obtain ⟨B, hB⟩ : ∃ q, A3.heap.size = q := ⟨_, rfl⟩
  obtain ⟨T0, P0⟩ := tb_new hA1 hq1 hA2 hq2 hA3 hq3 hV hB
  have G0 := gr_refl V (some B)
  have hyV : ∀ W, w.grownBy W none → Bu W ya val.length yc val := fun W g => hy.on (below_gr g)
  have a0 := cellE T0.r3 0 (.int .i64 2) rfl
  have a3 := cellE T0.r3 3 (.int .u64 cas) rfl
  have P9 := hide P0
  replace T0 := hide T0
  replace P0 := hide P0
  replace G0 := hide G0
  replace hyV := hide hyV
  clear hy hk hf hu
  simp only [fmC, cmC, rsC, pt3] at hA1 hA2 hA3 hV ⊢
  go_enter Try.func17, Try.ntmps17
  go_upto_region 1 with fail
  clear hA1 hA2 hA3 hV hq1 hq2 hq3 hB
  go_wp2_with (first
    | (refine wpList_load_row rfl 38 _ rfl B rfl _ _ _ _ P9.out.row Try.underlying38 rfl (pt3_size _ _ _ _ _ _ _ _ _) ?_)
    | (refine wpList_store_row rfl 38 _ _ rfl B (pt3 none 0 0 none 0 0 none 0 0) rfl rfl _ _ P9.out.row (pt3_size _ _ _ _ _ _ _ _ _) rfl (pt3_one _ _ _ _ _ _ _ _ _) ?_; obtain ⟨W8, e8, P8, g8⟩ : ∃ W8, V.setRow B (pt3 none 0 0 none 0 0 none 0 0) = W8 ∧ PtS w W8 B (pt3 none 0 0 none 0 0 none 0 0) ∧ V.grownBy W8 (some B) := ⟨_, rfl, (P9.out.again _).1, (P9.out.again _).2⟩; rw [e8]; clear e8; replace P8 := hide P8; replace g8 := hide g8))
  refine bodyPost_ret (results_row_tmp rfl _ _ B 38 (pt3 none 0 0 none 0 0 none 0 0) (0, 0) _ rfl P8.out.row Try.underlying38 rfl (pt3_size _ _ _ _ _ _ _ _ _)) rfl ?_
  exact ⟨_, _, _, _, _, _, _, _, _, rfl, bu_nil _, bu_nil _, bu_nil _, P8.out.gr⟩
set_option maxRecDepth 100000 in
set_option maxHeartbeats 4000000 in
theorem ptold_other {f : Fv} {ta ka : Option Addr} {tc kc : Nat} {c : Cv} {va : Option Addr} {vc : Nat} {s : Int} {val : List UInt8} {fl cas ttl num : Int} {st won lost : Bool} {ya : Option Addr} {yc : Nat} (hy : Bu w ya val.length yc val) (hk : c.key.size ≤ 1000) (hf : 0 ≤ fl ∧ fl < 4294967296) (hu : 0 ≤ num ∧ num < 18446744073709551616) (h0 : ¬ s = 0) (h7 : ¬ s = 7) (h2 : ¬ s = 2) (h11 : ¬ s = 11) :
    Calls Try.prog 17 #[.agg (fmC f ta tc ka kc), .agg (cmC c va vc), .agg (rsC ⟨s, val, fl, cas, ttl, num, st, won, lost⟩ ya yc)] w fun e w' => RdP f c ⟨s, val, fl, cas, ttl, num, st, won, lost⟩ w e w' := by
  obtain ⟨A1, hA1⟩ : ∃ A1, w.alloc (.cells (fmC f ta tc ka kc) 26) = A1 := ⟨_, rfl⟩
  obtain ⟨q1, hq1⟩ : ∃ q, w.heap.size = q := ⟨_, rfl⟩
  obtain ⟨A2, hA2⟩ : ∃ A2, A1.alloc (.cells (cmC c va vc) 48) = A2 := ⟨_, rfl⟩
  obtain ⟨q2, hq2⟩ : ∃ q, A1.heap.size = q := ⟨_, rfl⟩
  obtain ⟨A3, hA3⟩ : ∃ A3, A2.alloc (.cells (rsC ⟨s, val, fl, cas, ttl, num, st, won, lost⟩ ya yc) 46) = A3 := ⟨_, rfl⟩
  obtain ⟨q3, hq3⟩ : ∃ q, A2.heap.size = q := ⟨_, rfl⟩
  obtain ⟨V, hV⟩ : ∃ V, A3.alloc (.cells (pt3 none 0 0 none 0 0 none 0 0) 38) = V := ⟨_, rfl⟩
  obtain ⟨B, hB⟩ : ∃ q, A3.heap.size = q := ⟨_, rfl⟩
  obtain ⟨T0, P0⟩ := tb_new hA1 hq1 hA2 hq2 hA3 hq3 hV hB
  have G0 := gr_refl V (some B)
  have hyV : ∀ W, w.grownBy W none → Bu W ya val.length yc val := fun W g => hy.on (below_gr g)
  have a0 := cellE T0.r3 0 (.int .i64 s) rfl
  have P9 := hide P0
  have z0 := eq_false h0
  have z7 := eq_false h7
  have z2 := eq_false h2
  have z11 := eq_false h11
  have HO := hide (told_other (f := f) (c := c) (x := ⟨s, val, fl, cas, ttl, num, st, won, lost⟩) h0 h7 h2 h11)
  clear h0 h7 h2 h11
  replace T0 := hide T0
  replace P0 := hide P0
  replace G0 := hide G0
  replace hyV := hide hyV
  clear hy hk hf hu
  simp only [fmC, cmC, rsC, pt3] at hA1 hA2 hA3 hV ⊢
  go_enter Try.func17, Try.ntmps17
  go_upto_region 1 with fail
  clear hA1 hA2 hA3 hV hq1 hq2 hq3 hB
  go_wp2_with (first
    | (refine wpList_load_row rfl 38 _ rfl B rfl _ _ _ _ P9.out.row Try.underlying38 rfl (pt3_size _ _ _ _ _ _ _ _ _) ?_)
    | (refine wpList_store_row rfl 38 _ _ rfl B (pt3 none 0 0 none 0 0 none 0 0) rfl rfl _ _ P9.out.row (pt3_size _ _ _ _ _ _ _ _ _) rfl (pt3_one _ _ _ _ _ _ _ _ _) ?_; obtain ⟨W8, e8, P8, g8⟩ : ∃ W8, V.setRow B (pt3 none 0 0 none 0 0 none 0 0) = W8 ∧ PtS w W8 B (pt3 none 0 0 none 0 0 none 0 0) ∧ V.grownBy W8 (some B) := ⟨_, rfl, (P9.out.again _).1, (P9.out.again _).2⟩; rw [e8]; clear e8; replace P8 := hide P8; replace g8 := hide g8))
  refine bodyPost_ret (results_row_tmp rfl _ _ B 38 (pt3 none 0 0 none 0 0 none 0 0) (0, 0) _ rfl P8.out.row Try.underlying38 rfl (pt3_size _ _ _ _ _ _ _ _ _)) rfl ?_
  exact ⟨_, _, _, _, _, _, _, _, _, by rw [HO.out.2.2.2]; rfl, by rw [HO.out.1]; exact bu_nil _, by rw [HO.out.2.1]; exact bu_nil _, by rw [HO.out.2.2.1]; exact bu_nil _, P8.out.gr⟩
set_option maxRecDepth 100000 in
set_option maxHeartbeats 4000000 in
theorem ptold_num {f : Fv} {ta ka : Option Addr} {tc kc : Nat} {c : Cv} {va : Option Addr} {vc : Nat} {s : Int} {val : List UInt8} {fl cas ttl num : Int} {st won lost : Bool} {ya : Option Addr} {yc : Nat} (hy : Bu w ya val.length yc val) (hk : c.key.size ≤ 1000) (hf : 0 ≤ fl ∧ fl < 4294967296) (hu : 0 ≤ num ∧ num < 18446744073709551616)  :
    Calls Try.prog 17 #[.agg (fmC f ta tc ka kc), .agg (cmC c va vc), .agg (rsC ⟨7, val, fl, cas, ttl, num, st, won, lost⟩ ya yc)] w fun e w' => RdP f c ⟨7, val, fl, cas, ttl, num, st, won, lost⟩ w e w' := by
  obtain ⟨A1, hA1⟩ : ∃ A1, w.alloc (.cells (fmC f ta tc ka kc) 26) = A1 := ⟨_, rfl⟩
  obtain ⟨q1, hq1⟩ : ∃ q, w.heap.size = q := ⟨_, rfl⟩
  obtain ⟨A2, hA2⟩ : ∃ A2, A1.alloc (.cells (cmC c va vc) 48) = A2 := ⟨_, rfl⟩
  obtain ⟨q2, hq2⟩ : ∃ q, A1.heap.size = q := ⟨_, rfl⟩
  obtain ⟨A3, hA3⟩ : ∃ A3, A2.alloc (.cells (rsC ⟨7, val, fl, cas, ttl, num, st, won, lost⟩ ya yc) 46) = A3 := ⟨_, rfl⟩
  obtain ⟨q3, hq3⟩ : ∃ q, A2.heap.size = q := ⟨_, rfl⟩
  obtain ⟨V, hV⟩ : ∃ V, A3.alloc (.cells (pt3 none 0 0 none 0 0 none 0 0) 38) = V := ⟨_, rfl⟩
  obtain ⟨B, hB⟩ : ∃ q, A3.heap.size = q := ⟨_, rfl⟩
  obtain ⟨T0, P0⟩ := tb_new hA1 hq1 hA2 hq2 hA3 hq3 hV hB
  have G0 := gr_refl V (some B)
  have hyV : ∀ W, w.grownBy W none → Bu W ya val.length yc val := fun W g => hy.on (below_gr g)
  have a0 := cellE T0.r3 0 (.int .i64 7) rfl
  have a5 := cellE T0.r3 5 (.int .u64 num) rfl
  have HP := hide (pput64 num.toNat)
  rw [Int.toNat_of_nonneg hu.1] at HP
  replace T0 := hide T0
  replace P0 := hide P0
  replace G0 := hide G0
  replace hyV := hide hyV
  clear hy hk hf hu
  simp only [fmC, cmC, rsC, pt3] at hA1 hA2 hA3 hV ⊢
  go_enter Try.func17, Try.ntmps17
  go_upto_region 1 with fail
  clear hA1 hA2 hA3 hV hq1 hq2 hq3 hB
  go_wp2_with (first
    | (go_at_call 27; refine (HP.out V).mono ?_; rintro e w1 ⟨g1, rfl, b1, gw1⟩; obtain ⟨W1, e1, d1, f1, P1, G1, k1⟩ := pt_step P0.out G0.out gw1 (j := 2) (old := .slice none 0 0) rfl (.slice (some ⟨g1, 0, none⟩) 8 8); have a3 := cellE (T0.out.on G1).r3 3 (.int .u64 cas) rfl; have P9 := hide (show PtS w W1 B (pt3 none 0 0 none 0 0 (some ⟨g1, 0, none⟩) 8 8) from P1); replace b1 := hide b1; replace k1 := hide k1; replace G1 := hide G1; have l1 := hide P0.out.lt; clear P1 gw1)
    | (refine wpList_load_row rfl 38 _ rfl B rfl _ _ _ _ P9.out.row Try.underlying38 rfl (pt3_size _ _ _ _ _ _ _ _ _) ?_)
    | (refine wpList_store_row rfl 38 _ _ rfl B (pt3 none 0 0 none 0 0 (some ⟨g1, 0, none⟩) 8 8) rfl rfl _ _ P9.out.row (pt3_size _ _ _ _ _ _ _ _ _) rfl (pt3_one _ _ _ _ _ _ _ _ _) ?_; obtain ⟨W8, e8, P8, g8⟩ : ∃ W8, W1.setRow B (pt3 none 0 0 none 0 0 (some ⟨g1, 0, none⟩) 8 8) = W8 ∧ PtS w W8 B (pt3 none 0 0 none 0 0 (some ⟨g1, 0, none⟩) 8 8) ∧ W1.grownBy W8 (some B) := ⟨_, rfl, (P9.out.again _).1, (P9.out.again _).2⟩; rw [e8]; clear e8; replace P8 := hide P8; replace g8 := hide g8))
  refine bodyPost_ret (results_row_tmp rfl _ _ B 38 (pt3 none 0 0 none 0 0 (some ⟨g1, 0, none⟩) 8 8) (0, 0) _ rfl P8.out.row Try.underlying38 rfl (pt3_size _ _ _ _ _ _ _ _ _)) rfl ?_
  exact ⟨_, _, _, _, _, _, _, _, _, rfl, bu_nil _, bu_nil _, b1.out _ ((Hi.of k1.out l1.out).trans (Hi.of g8.out l1.out)), P8.out.gr⟩
set_option maxRecDepth 100000 in
set_option maxHeartbeats 4000000 in
theorem ptold_ver {f : Fv} {ta ka : Option Addr} {tc kc : Nat} {c : Cv} {va : Option Addr} {vc : Nat} {s : Int} {val : List UInt8} {fl cas ttl num : Int} {st won lost : Bool} {ya : Option Addr} {yc : Nat} (hy : Bu w ya val.length yc val) (hk : c.key.size ≤ 1000) (hf : 0 ≤ fl ∧ fl < 4294967296) (hu : 0 ≤ num ∧ num < 18446744073709551616)  :
    Calls Try.prog 17 #[.agg (fmC f ta tc ka kc), .agg (cmC c va vc), .agg (rsC ⟨11, val, fl, cas, ttl, num, st, won, lost⟩ ya yc)] w fun e w' => RdP f c ⟨11, val, fl, cas, ttl, num, st, won, lost⟩ w e w' := by
  obtain ⟨A1, hA1⟩ : ∃ A1, w.alloc (.cells (fmC f ta tc ka kc) 26) = A1 := ⟨_, rfl⟩
  obtain ⟨q1, hq1⟩ : ∃ q, w.heap.size = q := ⟨_, rfl⟩
  obtain ⟨A2, hA2⟩ : ∃ A2, A1.alloc (.cells (cmC c va vc) 48) = A2 := ⟨_, rfl⟩
  obtain ⟨q2, hq2⟩ : ∃ q, A1.heap.size = q := ⟨_, rfl⟩
  obtain ⟨A3, hA3⟩ : ∃ A3, A2.alloc (.cells (rsC ⟨11, val, fl, cas, ttl, num, st, won, lost⟩ ya yc) 46) = A3 := ⟨_, rfl⟩
  obtain ⟨q3, hq3⟩ : ∃ q, A2.heap.size = q := ⟨_, rfl⟩
  obtain ⟨V, hV⟩ : ∃ V, A3.alloc (.cells (pt3 none 0 0 none 0 0 none 0 0) 38) = V := ⟨_, rfl⟩
  obtain ⟨B, hB⟩ : ∃ q, A3.heap.size = q := ⟨_, rfl⟩
  obtain ⟨T0, P0⟩ := tb_new hA1 hq1 hA2 hq2 hA3 hq3 hV hB
  have G0 := gr_refl V (some B)
  have hyV : ∀ W, w.grownBy W none → Bu W ya val.length yc val := fun W g => hy.on (below_gr g)
  have a0 := cellE T0.r3 0 (.int .i64 11) rfl
  obtain ⟨U, hU⟩ : ∃ U, V.alloc (.cells #[.int .u8 49] 5) = U := ⟨_, rfl⟩
  obtain ⟨K, hK⟩ : ∃ K, V.heap.size = K := ⟨_, rfl⟩
  obtain ⟨U2, hU2⟩ : ∃ U2, V.alloc (.cells #[.int .u8 49] 5 (1, 2)) = U2 := ⟨_, rfl⟩
  obtain ⟨gU, bU⟩ := one_new (u := 49) hU2 hK
  have kcv : (convert 32 32 (.slice (some ⟨K, 0, none⟩) 1 1)).run Try.prog U = .ok (.slice (some ⟨K, 0, none⟩) 1 1) U2 := by rw [← hU, ← hU2, ← hK]; exact Lib.run_convert_bytes_const (P := Try.prog) V 32 5 _ 1 1 Try.underlying32 Try.underlying5
  clear hU2
  obtain ⟨W1, e1, d1, f1, P1, G1, k1⟩ := pt_step P0 G0 gU (j := 2) (old := .slice none 0 0) rfl (.slice (some ⟨K, 0, none⟩) 1 1)
  have P9 := hide (show PtS w W1 B (pt3 none 0 0 none 0 0 (some ⟨K, 0, none⟩) 1 1) from P1)
  have l1 : Hid (B < K) := by rw [← hK]; exact P0.lt
  replace bU := hide bU
  replace k1 := hide k1
  clear P1 G1 gU
  replace T0 := hide T0
  replace P0 := hide P0
  replace G0 := hide G0
  replace hyV := hide hyV
  clear hy hk hf hu
  simp only [fmC, cmC, rsC, pt3] at hA1 hA2 hA3 hV ⊢
  go_enter Try.func17, Try.ntmps17
  go_upto_region 1 with fail
  clear hA1 hA2 hA3 hV hq1 hq2 hq3 hB
  go_wp2_with (first
    | (refine wpList_load_row rfl 38 _ rfl B rfl _ _ _ _ P9.out.row Try.underlying38 rfl (pt3_size _ _ _ _ _ _ _ _ _) ?_)
    | (refine wpList_store_row rfl 38 _ _ rfl B (pt3 none 0 0 none 0 0 (some ⟨K, 0, none⟩) 1 1) rfl rfl _ _ P9.out.row (pt3_size _ _ _ _ _ _ _ _ _) rfl (pt3_one _ _ _ _ _ _ _ _ _) ?_; obtain ⟨W8, e8, P8, g8⟩ : ∃ W8, W1.setRow B (pt3 none 0 0 none 0 0 (some ⟨K, 0, none⟩) 1 1) = W8 ∧ PtS w W8 B (pt3 none 0 0 none 0 0 (some ⟨K, 0, none⟩) 1 1) ∧ W1.grownBy W8 (some B) := ⟨_, rfl, (P9.out.again _).1, (P9.out.again _).2⟩; rw [e8]; clear e8; replace P8 := hide P8; replace g8 := hide g8))
  refine bodyPost_ret (results_row_tmp rfl _ _ B 38 (pt3 none 0 0 none 0 0 (some ⟨K, 0, none⟩) 1 1) (0, 0) _ rfl P8.out.row Try.underlying38 rfl (pt3_size _ _ _ _ _ _ _ _ _)) rfl ?_
  exact ⟨_, _, _, _, _, _, _, _, _, rfl, bu_nil _, bu_nil _, bU.out _ ((Hi.of k1.out l1.out).trans (Hi.of g8.out l1.out)), P8.out.gr⟩
set_option maxRecDepth 100000 in
set_option maxHeartbeats 4000000 in
theorem ptold_hit12 {f : Fv} {ta ka : Option Addr} {tc kc : Nat} {c : Cv} {va : Option Addr} {vc : Nat} {s : Int} {val : List UInt8} {fl cas ttl num : Int} {st won lost : Bool} {ya : Option Addr} {yc : Nat} (hy : Bu w ya val.length yc val) (hk : c.key.size ≤ 1000) (hf : 0 ≤ fl ∧ fl < 4294967296) (hu : 0 ≤ num ∧ num < 18446744073709551616) (hc : f.code = 12) :
    Calls Try.prog 17 #[.agg (fmC f ta tc ka kc), .agg (cmC c va vc), .agg (rsC ⟨0, val, fl, cas, ttl, num, st, won, lost⟩ ya yc)] w fun e w' => RdP f c ⟨0, val, fl, cas, ttl, num, st, won, lost⟩ w e w' := by
  obtain ⟨A1, hA1⟩ : ∃ A1, w.alloc (.cells (fmC f ta tc ka kc) 26) = A1 := ⟨_, rfl⟩
  obtain ⟨q1, hq1⟩ : ∃ q, w.heap.size = q := ⟨_, rfl⟩
  obtain ⟨A2, hA2⟩ : ∃ A2, A1.alloc (.cells (cmC c va vc) 48) = A2 := ⟨_, rfl⟩
  obtain ⟨q2, hq2⟩ : ∃ q, A1.heap.size = q := ⟨_, rfl⟩
  obtain ⟨A3, hA3⟩ : ∃ A3, A2.alloc (.cells (rsC ⟨0, val, fl, cas, ttl, num, st, won, lost⟩ ya yc) 46) = A3 := ⟨_, rfl⟩
  obtain ⟨q3, hq3⟩ : ∃ q, A2.heap.size = q := ⟨_, rfl⟩
  obtain ⟨V, hV⟩ : ∃ V, A3.alloc (.cells (pt3 none 0 0 none 0 0 none 0 0) 38) = V := ⟨_, rfl⟩
  obtain ⟨B, hB⟩ : ∃ q, A3.heap.size = q := ⟨_, rfl⟩
  obtain ⟨T0, P0⟩ := tb_new hA1 hq1 hA2 hq2 hA3 hq3 hV hB
  have G0 := gr_refl V (some B)
  have hyV : ∀ W, w.grownBy W none → Bu W ya val.length yc val := fun W g => hy.on (below_gr g)
  have a0 := cellE T0.r3 0 (.int .i64 0) rfl
  have a2 := cellE T0.r3 2 (.int .u32 fl) rfl
  have HP := hide (pput32 fl.toNat (by omega))
  rw [Int.toNat_of_nonneg hf.1] at HP
  have hkl : ¬ (65535 : Int) < (c.key.size : Int) := by omega
  have hk2 : (c.key.size : Int) ≤ 65535 := by omega
  have hK := hide hk
  have HC := hide hc
  clear hc
  replace T0 := hide T0
  replace P0 := hide P0
  replace G0 := hide G0
  replace hyV := hide hyV
  clear hy hk hf hu
  simp only [fmC, cmC, rsC, pt3] at hA1 hA2 hA3 hV ⊢
  go_enter Try.func17, Try.ntmps17
  go_upto_region 1 with fail
  clear hA1 hA2 hA3 hV hq1 hq2 hq3 hB
  go_wp2_with (first
    | (go_at_call 26; go_loud (refine (HP.out V).mono ?_; rintro e w1 ⟨g1, rfl, b1, gw1⟩; obtain ⟨W1, e1, d1, f1, P1, G1, k1⟩ := pt_step P0.out G0.out gw1 (j := 0) (old := .slice none 0 0) rfl (.slice (some ⟨g1, 0, none⟩) 4 4); have a4 := cellE (T0.out.on G1).r1 2 (.int .i64 f.code) rfl; rw [HC.out] at a4; have a5 := cellE (T0.out.on G1).r2 1 (.string c.key) rfl; obtain ⟨g2, C2, w2, cv2, b2, gw2⟩ := text_new c.key (by have := hK.out; unfold maxLen; omega) W1; obtain ⟨W2, e2, d2, f2, P2, G2, k2⟩ := pt_step P1 G1 gw2 (j := 1) (old := .slice none 0 0) rfl (.slice (some ⟨g2, 0, none⟩) c.key.size C2); have a6 := cellE (T0.out.on G2).r3 1 (.slice ya val.length yc) rfl; obtain ⟨W3, e3, d3, f3, P3, G3, k3⟩ := pt_step P2 G2 (gr_refl W2 none) (j := 2) (old := .slice none 0 0) rfl (.slice ya val.length yc); have a7 := cellE (T0.out.on G3).r3 3 (.int .u64 cas) rfl; have P9 := hide (show PtS w W3 B (pt3 (some ⟨g1, 0, none⟩) 4 4 (some ⟨g2, 0, none⟩) c.key.size C2 ya val.length yc) from P3); have l1 := hide P0.out.lt; have l2 := hide P1.lt; have h1 := hide ((Hi.of k1 l1.out).trans ((Hi.gr gw2).trans ((Hi.of k2 l1.out).trans (Hi.of k3 l1.out)))); have h2 := hide ((Hi.of k2 l2.out).trans (Hi.of k3 l2.out)); clear P2 G2 k2 gw2; replace b2 := hide b2; replace b1 := hide b1; clear P1 G1 k1 gw1 P3 G3 k3))
    | (refine wpList_load_row rfl 38 _ rfl B rfl _ _ _ _ P9.out.row Try.underlying38 rfl (pt3_size _ _ _ _ _ _ _ _ _) ?_)
    | (refine wpList_store_row rfl 38 _ _ rfl B (pt3 (some ⟨g1, 0, none⟩) 4 4 (some ⟨g2, 0, none⟩) c.key.size C2 ya val.length yc) rfl rfl _ _ P9.out.row (pt3_size _ _ _ _ _ _ _ _ _) rfl (pt3_one _ _ _ _ _ _ _ _ _) ?_; obtain ⟨W8, e8, P8, g8⟩ : ∃ W8, W3.setRow B (pt3 (some ⟨g1, 0, none⟩) 4 4 (some ⟨g2, 0, none⟩) c.key.size C2 ya val.length yc) = W8 ∧ PtS w W8 B (pt3 (some ⟨g1, 0, none⟩) 4 4 (some ⟨g2, 0, none⟩) c.key.size C2 ya val.length yc) ∧ W3.grownBy W8 (some B) := ⟨_, rfl, (P9.out.again _).1, (P9.out.again _).2⟩; rw [e8]; clear e8; replace P8 := hide P8; replace g8 := hide g8))
  refine bodyPost_ret (results_row_tmp rfl _ _ B 38 (pt3 (some ⟨g1, 0, none⟩) 4 4 (some ⟨g2, 0, none⟩) c.key.size C2 ya val.length yc) (0, 0) _ rfl P8.out.row Try.underlying38 rfl (pt3_size _ _ _ _ _ _ _ _ _)) rfl ?_
  exact ⟨_, _, _, _, _, _, _, _, _, rfl, b1.out _ (h1.out.trans (Hi.of g8.out l1.out)), by rw [told_key (.inl HC.out) hK.out rfl]; exact b2.out _ (h2.out.trans (Hi.of g8.out l2.out)), hyV.out _ P8.out.gr, P8.out.gr⟩
set_option maxRecDepth 100000 in
set_option maxHeartbeats 4000000 in
theorem ptold_hit13 {f : Fv} {ta ka : Option Addr} {tc kc : Nat} {c : Cv} {va : Option Addr} {vc : Nat} {s : Int} {val : List UInt8} {fl cas ttl num : Int} {st won lost : Bool} {ya : Option Addr} {yc : Nat} (hy : Bu w ya val.length yc val) (hk : c.key.size ≤ 1000) (hf : 0 ≤ fl ∧ fl < 4294967296) (hu : 0 ≤ num ∧ num < 18446744073709551616) (hc : f.code = 13) :
    Calls Try.prog 17 #[.agg (fmC f ta tc ka kc), .agg (cmC c va vc), .agg (rsC ⟨0, val, fl, cas, ttl, num, st, won, lost⟩ ya yc)] w fun e w' => RdP f c ⟨0, val, fl, cas, ttl, num, st, won, lost⟩ w e w' := by
  obtain ⟨A1, hA1⟩ : ∃ A1, w.alloc (.cells (fmC f ta tc ka kc) 26) = A1 := ⟨_, rfl⟩
  obtain ⟨q1, hq1⟩ : ∃ q, w.heap.size = q := ⟨_, rfl⟩
  obtain ⟨A2, hA2⟩ : ∃ A2, A1.alloc (.cells (cmC c va vc) 48) = A2 := ⟨_, rfl⟩
  obtain ⟨q2, hq2⟩ : ∃ q, A1.heap.size = q := ⟨_, rfl⟩
  obtain ⟨A3, hA3⟩ : ∃ A3, A2.alloc (.cells (rsC ⟨0, val, fl, cas, ttl, num, st, won, lost⟩ ya yc) 46) = A3 := ⟨_, rfl⟩
  obtain ⟨q3, hq3⟩ : ∃ q, A2.heap.size = q := ⟨_, rfl⟩
  obtain ⟨V, hV⟩ : ∃ V, A3.alloc (.cells (pt3 none 0 0 none 0 0 none 0 0) 38) = V := ⟨_, rfl⟩
  obtain ⟨B, hB⟩ : ∃ q, A3.heap.size = q := ⟨_, rfl⟩
  obtain ⟨T0, P0⟩ := tb_new hA1 hq1 hA2 hq2 hA3 hq3 hV hB
  have G0 := gr_refl V (some B)
  have hyV : ∀ W, w.grownBy W none → Bu W ya val.length yc val := fun W g => hy.on (below_gr g)
  have a0 := cellE T0.r3 0 (.int .i64 0) rfl
  have a2 := cellE T0.r3 2 (.int .u32 fl) rfl
  have HP := hide (pput32 fl.toNat (by omega))
  rw [Int.toNat_of_nonneg hf.1] at HP
  have hkl : ¬ (65535 : Int) < (c.key.size : Int) := by omega
  have hk2 : (c.key.size : Int) ≤ 65535 := by omega
  have hK := hide hk
  have HC := hide hc
  clear hc
  replace T0 := hide T0
  replace P0 := hide P0
  replace G0 := hide G0
  replace hyV := hide hyV
  clear hy hk hf hu
  simp only [fmC, cmC, rsC, pt3] at hA1 hA2 hA3 hV ⊢
  go_enter Try.func17, Try.ntmps17
  go_upto_region 1 with fail
  clear hA1 hA2 hA3 hV hq1 hq2 hq3 hB
  go_wp2_with (first
    | (go_at_call 26; go_loud (refine (HP.out V).mono ?_; rintro e w1 ⟨g1, rfl, b1, gw1⟩; obtain ⟨W1, e1, d1, f1, P1, G1, k1⟩ := pt_step P0.out G0.out gw1 (j := 0) (old := .slice none 0 0) rfl (.slice (some ⟨g1, 0, none⟩) 4 4); have a4 := cellE (T0.out.on G1).r1 2 (.int .i64 f.code) rfl; rw [HC.out] at a4; have a5 := cellE (T0.out.on G1).r2 1 (.string c.key) rfl; obtain ⟨g2, C2, w2, cv2, b2, gw2⟩ := text_new c.key (by have := hK.out; unfold maxLen; omega) W1; obtain ⟨W2, e2, d2, f2, P2, G2, k2⟩ := pt_step P1 G1 gw2 (j := 1) (old := .slice none 0 0) rfl (.slice (some ⟨g2, 0, none⟩) c.key.size C2); have a6 := cellE (T0.out.on G2).r3 1 (.slice ya val.length yc) rfl; obtain ⟨W3, e3, d3, f3, P3, G3, k3⟩ := pt_step P2 G2 (gr_refl W2 none) (j := 2) (old := .slice none 0 0) rfl (.slice ya val.length yc); have a7 := cellE (T0.out.on G3).r3 3 (.int .u64 cas) rfl; have P9 := hide (show PtS w W3 B (pt3 (some ⟨g1, 0, none⟩) 4 4 (some ⟨g2, 0, none⟩) c.key.size C2 ya val.length yc) from P3); have l1 := hide P0.out.lt; have l2 := hide P1.lt; have h1 := hide ((Hi.of k1 l1.out).trans ((Hi.gr gw2).trans ((Hi.of k2 l1.out).trans (Hi.of k3 l1.out)))); have h2 := hide ((Hi.of k2 l2.out).trans (Hi.of k3 l2.out)); clear P2 G2 k2 gw2; replace b2 := hide b2; replace b1 := hide b1; clear P1 G1 k1 gw1 P3 G3 k3))
    | (refine wpList_load_row rfl 38 _ rfl B rfl _ _ _ _ P9.out.row Try.underlying38 rfl (pt3_size _ _ _ _ _ _ _ _ _) ?_)
    | (refine wpList_store_row rfl 38 _ _ rfl B (pt3 (some ⟨g1, 0, none⟩) 4 4 (some ⟨g2, 0, none⟩) c.key.size C2 ya val.length yc) rfl rfl _ _ P9.out.row (pt3_size _ _ _ _ _ _ _ _ _) rfl (pt3_one _ _ _ _ _ _ _ _ _) ?_; obtain ⟨W8, e8, P8, g8⟩ : ∃ W8, W3.setRow B (pt3 (some ⟨g1, 0, none⟩) 4 4 (some ⟨g2, 0, none⟩) c.key.size C2 ya val.length yc) = W8 ∧ PtS w W8 B (pt3 (some ⟨g1, 0, none⟩) 4 4 (some ⟨g2, 0, none⟩) c.key.size C2 ya val.length yc) ∧ W3.grownBy W8 (some B) := ⟨_, rfl, (P9.out.again _).1, (P9.out.again _).2⟩; rw [e8]; clear e8; replace P8 := hide P8; replace g8 := hide g8))
  refine bodyPost_ret (results_row_tmp rfl _ _ B 38 (pt3 (some ⟨g1, 0, none⟩) 4 4 (some ⟨g2, 0, none⟩) c.key.size C2 ya val.length yc) (0, 0) _ rfl P8.out.row Try.underlying38 rfl (pt3_size _ _ _ _ _ _ _ _ _)) rfl ?_
  exact ⟨_, _, _, _, _, _, _, _, _, rfl, b1.out _ (h1.out.trans (Hi.of g8.out l1.out)), by rw [told_key (.inr HC.out) hK.out rfl]; exact b2.out _ (h2.out.trans (Hi.of g8.out l2.out)), hyV.out _ P8.out.gr, P8.out.gr⟩
set_option maxRecDepth 100000 in
set_option maxHeartbeats 4000000 in
theorem ptold_hit {f : Fv} {ta ka : Option Addr} {tc kc : Nat} {c : Cv} {va : Option Addr} {vc : Nat} {s : Int} {val : List UInt8} {fl cas ttl num : Int} {st won lost : Bool} {ya : Option Addr} {yc : Nat} (hy : Bu w ya val.length yc val) (hk : c.key.size ≤ 1000) (hf : 0 ≤ fl ∧ fl < 4294967296) (hu : 0 ≤ num ∧ num < 18446744073709551616) (hc : ¬ (f.code = 12 ∨ f.code = 13)) :
    Calls Try.prog 17 #[.agg (fmC f ta tc ka kc), .agg (cmC c va vc), .agg (rsC ⟨0, val, fl, cas, ttl, num, st, won, lost⟩ ya yc)] w fun e w' => RdP f c ⟨0, val, fl, cas, ttl, num, st, won, lost⟩ w e w' := by
  obtain ⟨A1, hA1⟩ : ∃ A1, w.alloc (.cells (fmC f ta tc ka kc) 26) = A1 := ⟨_, rfl⟩
  obtain ⟨q1, hq1⟩ : ∃ q, w.heap.size = q := ⟨_, rfl⟩
  obtain ⟨A2, hA2⟩ : ∃ A2, A1.alloc (.cells (cmC c va vc) 48) = A2 := ⟨_, rfl⟩
  obtain ⟨q2, hq2⟩ : ∃ q, A1.heap.size = q := ⟨_, rfl⟩
  obtain ⟨A3, hA3⟩ : ∃ A3, A2.alloc (.cells (rsC ⟨0, val, fl, cas, ttl, num, st, won, lost⟩ ya yc) 46) = A3 := ⟨_, rfl⟩
  obtain ⟨q3, hq3⟩ : ∃ q, A2.heap.size = q := ⟨_, rfl⟩
  obtain ⟨V, hV⟩ : ∃ V, A3.alloc (.cells (pt3 none 0 0 none 0 0 none 0 0) 38) = V := ⟨_, rfl⟩
  obtain ⟨B, hB⟩ : ∃ q, A3.heap.size = q := ⟨_, rfl⟩
  obtain ⟨T0, P0⟩ := tb_new hA1 hq1 hA2 hq2 hA3 hq3 hV hB
  have G0 := gr_refl V (some B)
  have hyV : ∀ W, w.grownBy W none → Bu W ya val.length yc val := fun W g => hy.on (below_gr g)
  have a0 := cellE T0.r3 0 (.int .i64 0) rfl
  have a2 := cellE T0.r3 2 (.int .u32 fl) rfl
  have HP := hide (pput32 fl.toNat (by omega))
  rw [Int.toNat_of_nonneg hf.1] at HP
  have hkl : ¬ (65535 : Int) < (c.key.size : Int) := by omega
  have hk2 : (c.key.size : Int) ≤ 65535 := by omega
  have hK := hide hk
  have y0 := eq_false (show ¬ f.code = 12 by omega)
  have y1 := eq_false (show ¬ f.code = 13 by omega)
  have HC := hide hc
  clear hc
  replace T0 := hide T0
  replace P0 := hide P0
  replace G0 := hide G0
  replace hyV := hide hyV
  clear hy hk hf hu
  simp only [fmC, cmC, rsC, pt3] at hA1 hA2 hA3 hV ⊢
  go_enter Try.func17, Try.ntmps17
  go_upto_region 1 with fail
  clear hA1 hA2 hA3 hV hq1 hq2 hq3 hB
  go_wp2_with (first
    | (go_at_call 26; go_loud (refine (HP.out V).mono ?_; rintro e w1 ⟨g1, rfl, b1, gw1⟩; obtain ⟨W1, e1, d1, f1, P1, G1, k1⟩ := pt_step P0.out G0.out gw1 (j := 0) (old := .slice none 0 0) rfl (.slice (some ⟨g1, 0, none⟩) 4 4); have a4 := cellE (T0.out.on G1).r1 2 (.int .i64 f.code) rfl; have a6 := cellE (T0.out.on G1).r3 1 (.slice ya val.length yc) rfl; obtain ⟨W3, e3, d3, f3, P3, G3, k3⟩ := pt_step P1 G1 (gr_refl W1 none) (j := 2) (old := .slice none 0 0) rfl (.slice ya val.length yc); have a7 := cellE (T0.out.on G3).r3 3 (.int .u64 cas) rfl; have P9 := hide (show PtS w W3 B (pt3 (some ⟨g1, 0, none⟩) 4 4 none 0 0 ya val.length yc) from P3); have l1 := hide P0.out.lt; have h1 := hide ((Hi.of k1 l1.out).trans (Hi.of k3 l1.out)); replace b1 := hide b1; clear P1 G1 k1 gw1 P3 G3 k3))
    | (refine wpList_load_row rfl 38 _ rfl B rfl _ _ _ _ P9.out.row Try.underlying38 rfl (pt3_size _ _ _ _ _ _ _ _ _) ?_)
    | (refine wpList_store_row rfl 38 _ _ rfl B (pt3 (some ⟨g1, 0, none⟩) 4 4 none 0 0 ya val.length yc) rfl rfl _ _ P9.out.row (pt3_size _ _ _ _ _ _ _ _ _) rfl (pt3_one _ _ _ _ _ _ _ _ _) ?_; obtain ⟨W8, e8, P8, g8⟩ : ∃ W8, W3.setRow B (pt3 (some ⟨g1, 0, none⟩) 4 4 none 0 0 ya val.length yc) = W8 ∧ PtS w W8 B (pt3 (some ⟨g1, 0, none⟩) 4 4 none 0 0 ya val.length yc) ∧ W3.grownBy W8 (some B) := ⟨_, rfl, (P9.out.again _).1, (P9.out.again _).2⟩; rw [e8]; clear e8; replace P8 := hide P8; replace g8 := hide g8))
  refine bodyPost_ret (results_row_tmp rfl _ _ B 38 (pt3 (some ⟨g1, 0, none⟩) 4 4 none 0 0 ya val.length yc) (0, 0) _ rfl P8.out.row Try.underlying38 rfl (pt3_size _ _ _ _ _ _ _ _ _)) rfl ?_
  exact ⟨_, _, _, _, _, _, _, _, _, rfl, b1.out _ (h1.out.trans (Hi.of g8.out l1.out)), by rw [told_nokey HC.out]; exact bu_nil _, hyV.out _ P8.out.gr, P8.out.gr⟩
end
end Go.Proofs.Ytaafkefgpgoepaa
