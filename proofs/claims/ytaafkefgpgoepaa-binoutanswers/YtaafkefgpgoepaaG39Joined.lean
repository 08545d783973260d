/- The document's own answers of the binary dialect: loud, a get. Conditions: a key of at most 1000 bytes, a value of at most 2000. The document's own answers of the binary dialect: loud, a gat. Conditions: a key of at most 1000 bytes, a value of at most 2000. -/
import Derived.Test.YtaafkefgpgoepaaG38Joined
import Derived.Deep.Cut
namespace Go.Proofs.Ytaafkefgpgoepaa
set_option linter.unusedVariables false
open Go.RowKit Go.Shelf

section
variable {w : World}
set_option maxRecDepth 100000 in
set_option maxHeartbeats 16000000 in
theorem renc_H1 {f : Fv} {n m cc tc kc lc : Nat} {ta ka va ya : Option Addr} {cb co vc lb lo yc : Nat}  {key : ByteArray} {cval : List UInt8} {cfl cexp ccas cdel cini : Int} {cmk cse : Bool} {s : Int} {val : List UInt8} {fl cas ttl num : Int} {st won lost : Bool}
    (H : EncH w f n m ⟨0, key, cval, cfl, cexp, ccas, cdel, cini, cmk, cse⟩ ⟨s, val, fl, cas, ttl, num, st, won, lost⟩ (some ⟨cb, co, none⟩) cb co va vc lb lo ya yc) (hq : f.quiet = false)   :
    Calls Try.prog 11 #[.agg (rqG f n (some ⟨cb, co, none⟩) cc ta tc ka kc), .slice (some ⟨lb, lo, none⟩) m lc] w fun e w' => EncE (oneA f ⟨0, key, cval, cfl, cexp, ccas, cdel, cini, cmk, cse⟩ ⟨s, val, fl, cas, ttl, num, st, won, lost⟩) w e w' := by
  obtain ⟨n0, m0, hk, hv, o0, o1, ok, c_, x_, v_⟩ := H
  obtain ⟨f0, f1, k0, k1, u0, u1⟩ := ok
  obtain ⟨cs, hcs⟩ : ∃ cs, cs = codeN s := ⟨_, rfl⟩
  have cb_ := codeN_bd s
  rw [← hcs] at cb_
  simp only [] at hk hv f0 f1 k0 k1 u0 u1 v_
  have z1 : ((n : Int) == 0) = false := by rw [beq_eq_false_iff_ne]; omega
  have z2 : ((m : Int) == 0) = false := by rw [beq_eq_false_iff_ne]; omega
  have z3 : (0 : Int) < (n : Int) := by omega
  have z4 : (0 : Int) < (m : Int) := by omega
  have z5 : ¬ (65535 : Int) < (key.size : Int) := by omega
  have z6 : IntKind.u64.wrap fl = fl := by rw [IntKind.wrap_u64]; omega
  have HK := hide hk
  have HV := hide hv
  have HF : Hid (0 ≤ fl ∧ fl < 4294967296) := ⟨f0, f1⟩
  have HN : Hid (0 ≤ num ∧ num < 18446744073709551616) := ⟨u0, u1⟩
  have HC : Hid (0 ≤ cas ∧ cas < 18446744073709551616) := ⟨k0, k1⟩
  have HO : Hid (0 ≤ f.opq ∧ f.opq < 4294967296) := ⟨o0, o1⟩
  have HB := hide cb_
  have HQ := hide hq
  have HCS := hide hcs
  have HR := hide (fun W => rcode_any s W)
  rw [← hcs] at HR
  have kcv := fun (w : World) (C : Array Value) (n c : Nat) => Lib.run_convert_bytes_const (P := Try.prog) w 32 5 C n c Try.underlying32 Try.underlying5
  obtain ⟨V, hV⟩ : ∃ V, V = w.alloc (.cells (rqG f n (some ⟨cb, co, none⟩) cc ta tc ka kc) 28) := ⟨_, rfl⟩
  obtain ⟨q, hqq⟩ : ∃ q, q = w.heap.size := ⟨_, rfl⟩
  obtain ⟨W5, hW5⟩ : ∃ W5, W5 = V.alloc (.cells (cmC ⟨0, key, cval, cfl, cexp, ccas, cdel, cini, cmk, cse⟩ va vc) 48) := ⟨_, rfl⟩
  obtain ⟨P, hP⟩ : ∃ P, P = V.heap.size := ⟨_, rfl⟩
  obtain ⟨W6, hW6⟩ : ∃ W6, W6 = W5.alloc (.cells (rsC ⟨s, val, fl, cas, ttl, num, st, won, lost⟩ ya yc) 46) := ⟨_, rfl⟩
  obtain ⟨K, hK⟩ : ∃ K, K = W5.heap.size := ⟨_, rfl⟩
  have E6 := eb_new w V W5 W6 f n (some ⟨cb, co, none⟩) cc ta tc ka kc ⟨0, key, cval, cfl, cexp, ccas, cdel, cini, cmk, cse⟩ va vc ⟨s, val, fl, cas, ttl, num, st, won, lost⟩ ya yc hV hW5 hW6 v_
  rw [← hqq, ← hP, ← hK] at E6
  have gV : w.grownBy V none := by rw [hV]; exact World.grownBy_alloc _ _ _
  have rV : V.heap[q]? = some (.cells (rqG f n (some ⟨cb, co, none⟩) cc ta tc ka kc) 28 (0, 0)) := by rw [hV, hqq]; exact World.alloc_heap_new _ _
  have a0 := cellE rV 0 (.slice (some ⟨cb, co, none⟩) n cc) rfl
  have rc := rngE gV c_
  have rx := rngE (gr_trans gV (by rw [hW5]; exact World.grownBy_alloc _ _ _ : V.grownBy W5 none)) x_
  have a1 := cellE E6.k 0 (.int .i64 s) rfl
  have a2 := cellE E6.p 0 (.int .i64 0) rfl
  have a3 := cellE E6.q 5 (.bool f.quiet) rfl
  have a4 := cellE E6.q 3 (.int .i64 f.code) rfl
  have a5 := cellE E6.p 1 (.string key) rfl
  have a6 := cellE E6.k 3 (.int .u64 cas) rfl
  have rf := E6.form
  rw [hq] at a3
  replace E6 := hide E6
  replace hW5 := hide hW5
  replace hW6 := hide hW6
  replace hP := hide hP
  replace hK := hide hK
  simp only [rqG] at hV ⊢
  clear n0 m0 hk hv o0 o1 f0 f1 k0 k1 u0 u1 c_ x_ v_ cb_ hcs gV rV hq
  go_enter Try.func11, Try.ntmps11
  go_upto_region 1 with fail
  rw [← hV, ← hqq]
  clear hV hqq
  have N1 : Hid (w = w) := rfl
  go_upto_region 9 with (first
    | (have t := N1; clear t; refine wpList_load_mid rfl 48 _ rfl cb co rfl (cmC ⟨0, key, cval, cfl, cexp, ccas, cdel, cini, cmk, cse⟩ va vc).toList _ rc Try.underlying48 rfl (by rw [cmd_size ⟨0, key, cval, cfl, cexp, ccas, cdel, cini, cmk, cse⟩ va vc, Array.length_toList]) ?_; clear rc)
    | (have t := N1; clear t; refine wpList_store_row rfl 48 _ _ rfl V.heap.size (cmC ⟨0, key, cval, cfl, cexp, ccas, cdel, cini, cmk, cse⟩ va vc) rfl rfl _ _ (World.alloc_heap_new V _) (cmd_size _ _ _) rfl (cmd_one _ _ _) ?_; rw [setRow_alloc, ← hW5.out, ← hP.out]; clear N1; have N2 : Hid (w = w) := rfl)
    | (have t := N2; clear t; refine wpList_load_mid rfl 46 _ rfl lb lo rfl (rsC ⟨s, val, fl, cas, ttl, num, st, won, lost⟩ ya yc).toList _ rx Try.underlying46 rfl (by rw [res_size ⟨s, val, fl, cas, ttl, num, st, won, lost⟩ ya yc, Array.length_toList]) ?_; clear rx)
    | (have t := N2; clear t; refine wpList_store_row rfl 46 _ _ rfl W5.heap.size (rsC ⟨s, val, fl, cas, ttl, num, st, won, lost⟩ ya yc) rfl rfl _ _ (World.alloc_heap_new W5 _) (res_size _ _ _) rfl (res_one _ _ _) ?_; rw [setRow_alloc, ← hW6.out, ← hK.out]; clear N2)
    | (go_at_call 13; refine (HR.out _).mono ?_; rintro e w7 ⟨rfl, hw7⟩; rw [hw7]; clear hw7 HR))
  rcases stat_ways s with rfl | rfl | rfl | rfl | ⟨h0, h7, h2, h11⟩
  · rcases code_ways f.code with hc | hc | hc
    · have HX : Hid (oneA f ⟨0, key, cval, cfl, cexp, ccas, cdel, cini, cmk, cse⟩ ⟨0, val, fl, cas, ttl, num, st, won, lost⟩ = packA f.code f.opq cs cas (byL (be fl.toNat 4)) key.data.toList val) := by
        show _ = _
        rw [oneA_hit (by show hushA f.quiet 0 0 = false; rw [HQ.out]; rfl) rfl, keyA_yes (.inl hc) HK.out, HCS.out]
      rw [hc] at a4
      clear hc
      have HPT := hide (fun W => rput_bu fl.toNat (by have := HF.out; omega) 4 (by decide) W)
      rw [Int.toNat_of_nonneg HF.out.1] at HPT
      have HPK : Hid (∀ (W : World), W6.grownBy W none → ∀ g, Bu W (some ⟨g, 0, none⟩) 4 4 (byL (be fl.toNat 4)) → Calls Try.prog 20 #[.agg (fmC f ta tc ka kc), .int .u16 cs, .int .u64 cas, .slice (some ⟨g, 0, none⟩) 4 4, .string key, .slice ya val.length yc] W fun e w' => EncE (packA f.code f.opq cs cas (byL (be fl.toNat 4)) key.data.toList val) W e w') := fun W g gg hb =>
        rpack_E hb (E6.out.on g).v (by decide) (HK.out) HV.out HB.out.1 HB.out.2 HC.out.1 HC.out.2 HO.out.1 HO.out.2
      go_wp2
      refine region_htail (S := fun W' => W6.grownBy W' none) 12 (by kernel_rfl) (by simp) (by kernel_rfl) ?_
      simp only [List.take_succ_cons, List.take_zero, List.drop_succ_cons, List.drop_zero]
      have S0 : W6.grownBy W6.drew none := gr_of_below (Below.drew (Below.refl _ _))
      generalize W6.drew = W7 at *
      refine take_at 0 77 (v := .pointer (some ⟨q, 1, none⟩)) rfl rfl (by kernel_rfl) (by kernel_rfl) (by kernel_rfl) (fun _ _ _ h => h) (Or.inl ⟨by rfl, fun W hW => by go_simp⟩) S0 ?_
      simp only [Act.put, List.setIfInBounds_toArray, List.set_cons_zero, List.set_cons_succ]
      refine take_at 1 78 (v := .agg (fmC f ta tc ka kc)) rfl rfl (by kernel_rfl) (by kernel_rfl) (by kernel_rfl) (fun _ _ _ h => h) (yieldsIf_load_mid (by rfl) 26 _ rfl q 1 rfl (fmC f ta tc ka kc).toList _ (fun W hW => rngE hW rf) Try.underlying26 rfl (by rw [fmE_size f ta tc ka kc, Array.length_toList])) S0 ?_
      simp only [Act.put, List.setIfInBounds_toArray, List.set_cons_zero, List.set_cons_succ]
      refine take_at 2 79 (v := .int .u16 cs) rfl rfl (by kernel_rfl) (by kernel_rfl) (by kernel_rfl) (fun _ _ _ h => h) (Or.inl ⟨by rfl, fun W hW => by go_simp⟩) S0 ?_
      simp only [Act.put, List.setIfInBounds_toArray, List.set_cons_zero, List.set_cons_succ]
      refine take_at 3 80 (v := .pointer (some ⟨K, 3, none⟩)) rfl rfl (by kernel_rfl) (by kernel_rfl) (by kernel_rfl) (fun _ _ _ h => h) (Or.inl ⟨by rfl, fun W hW => by go_simp⟩) S0 ?_
      simp only [Act.put, List.setIfInBounds_toArray, List.set_cons_zero, List.set_cons_succ]
      refine take_at 4 81 (v := .int .u64 cas) rfl rfl (by kernel_rfl) (by kernel_rfl) (by kernel_rfl) (fun _ _ _ h => h) (Or.inl ⟨by rfl, fun W hW => by have c3 := cellE (E6.out.on hW).k 3 (.int .u64 cas) rfl; go_simp⟩) S0 ?_
      simp only [Act.put, List.setIfInBounds_toArray, List.set_cons_zero, List.set_cons_succ]
      refine take_at 5 82 (v := .pointer (some ⟨K, 2, none⟩)) rfl rfl (by kernel_rfl) (by kernel_rfl) (by kernel_rfl) (fun _ _ _ h => h) (Or.inl ⟨by rfl, fun W hW => by go_simp⟩) S0 ?_
      simp only [Act.put, List.setIfInBounds_toArray, List.set_cons_zero, List.set_cons_succ]
      refine take_at 6 83 (v := .int .u32 fl) rfl rfl (by kernel_rfl) (by kernel_rfl) (by kernel_rfl) (fun _ _ _ h => h) (Or.inl ⟨by rfl, fun W hW => by have c3 := cellE (E6.out.on hW).k 2 (.int .u32 fl) rfl; go_simp⟩) S0 ?_
      simp only [Act.put, List.setIfInBounds_toArray, List.set_cons_zero, List.set_cons_succ]
      refine take_at 7 84 (v := .int .u64 fl) rfl rfl (by kernel_rfl) (by kernel_rfl) (by kernel_rfl) (fun _ _ _ h => h) (Or.inl ⟨by rfl, fun W hW => by go_simp⟩) S0 ?_
      simp only [Act.put, List.setIfInBounds_toArray, List.set_cons_zero, List.set_cons_succ]
      refine take_at 9 86 (v := .string key) rfl rfl (by kernel_rfl) (by kernel_rfl) (by kernel_rfl) (fun _ _ _ h => h) (Or.inl ⟨by rfl, fun W hW => by go_simp⟩) S0 ?_
      simp only [Act.put, List.setIfInBounds_toArray, List.set_cons_zero, List.set_cons_succ]
      refine take_at 10 87 (v := .pointer (some ⟨K, 1, none⟩)) rfl rfl (by kernel_rfl) (by kernel_rfl) (by kernel_rfl) (fun _ _ _ h => h) (Or.inl ⟨by rfl, fun W hW => by go_simp⟩) S0 ?_
      simp only [Act.put, List.setIfInBounds_toArray, List.set_cons_zero, List.set_cons_succ]
      refine take_at 11 88 (v := .slice ya val.length yc) rfl rfl (by kernel_rfl) (by kernel_rfl) (by kernel_rfl) (fun _ _ _ h => h) (Or.inl ⟨by rfl, fun W hW => by have c3 := cellE (E6.out.on hW).k 1 (.slice ya val.length yc) rfl; go_simp⟩) S0 ?_
      simp only [Act.put, List.setIfInBounds_toArray, List.set_cons_zero, List.set_cons_succ]
      refine one_at 8 (by kernel_rfl) rfl rfl ?_
      refine oper_call 85 rfl (by go_simp) (HPT.out W7) ?_
      rintro e w8 ⟨g8, rfl, b8_, q8⟩
      refine ⟨_, rfl, gr_trans S0 q8, ?_⟩
      simp only [Act.put, List.setIfInBounds_toArray, List.set_cons_zero, List.set_cons_succ]
      refine wpAnyH_done (by kernel_rfl) ?_ _
      change wpList _ _ _ _ _ _
      have GG := hide (HPK.out w8 (gr_trans S0 q8) g8 b8_)
      have GW := hide (gr_trans E6.out.gr (gr_trans S0 q8))
      clear S0 q8 b8_ HPK HPT
      go_wp2_with (go_at_call 20; refine GG.out.mono ?_; rintro e w9 ⟨a9, n9, c9, rfl, l9, b9, g9⟩; have R9 : Hid (n9 ≤ 100000 ∧ Bu w9 a9 n9 c9 (packA f.code f.opq cs cas (byL (be fl.toNat 4)) key.data.toList val) ∧ w.grownBy w9 none) := ⟨l9, b9, gr_trans GW.out g9⟩; clear l9 b9 g9)
      go_ret
      rw [HX.out]
      exact ⟨_, _, _, rfl, R9.out.1, R9.out.2.1, R9.out.2.2⟩
    · have HX : Hid (oneA f ⟨0, key, cval, cfl, cexp, ccas, cdel, cini, cmk, cse⟩ ⟨0, val, fl, cas, ttl, num, st, won, lost⟩ = packA f.code f.opq cs cas (byL (be fl.toNat 4)) key.data.toList val) := by
        show _ = _
        rw [oneA_hit (by show hushA f.quiet 0 0 = false; rw [HQ.out]; rfl) rfl, keyA_yes (.inr hc) HK.out, HCS.out]
      rw [hc] at a4
      clear hc
      have HPT := hide (fun W => rput_bu fl.toNat (by have := HF.out; omega) 4 (by decide) W)
      rw [Int.toNat_of_nonneg HF.out.1] at HPT
      have HPK : Hid (∀ (W : World), W6.grownBy W none → ∀ g, Bu W (some ⟨g, 0, none⟩) 4 4 (byL (be fl.toNat 4)) → Calls Try.prog 20 #[.agg (fmC f ta tc ka kc), .int .u16 cs, .int .u64 cas, .slice (some ⟨g, 0, none⟩) 4 4, .string key, .slice ya val.length yc] W fun e w' => EncE (packA f.code f.opq cs cas (byL (be fl.toNat 4)) key.data.toList val) W e w') := fun W g gg hb =>
        rpack_E hb (E6.out.on g).v (by decide) (HK.out) HV.out HB.out.1 HB.out.2 HC.out.1 HC.out.2 HO.out.1 HO.out.2
      go_wp2
      refine region_htail (S := fun W' => W6.grownBy W' none) 12 (by kernel_rfl) (by simp) (by kernel_rfl) ?_
      simp only [List.take_succ_cons, List.take_zero, List.drop_succ_cons, List.drop_zero]
      have S0 : W6.grownBy W6.drew none := gr_of_below (Below.drew (Below.refl _ _))
      generalize W6.drew = W7 at *
      refine take_at 0 77 (v := .pointer (some ⟨q, 1, none⟩)) rfl rfl (by kernel_rfl) (by kernel_rfl) (by kernel_rfl) (fun _ _ _ h => h) (Or.inl ⟨by rfl, fun W hW => by go_simp⟩) S0 ?_
      simp only [Act.put, List.setIfInBounds_toArray, List.set_cons_zero, List.set_cons_succ]
      refine take_at 1 78 (v := .agg (fmC f ta tc ka kc)) rfl rfl (by kernel_rfl) (by kernel_rfl) (by kernel_rfl) (fun _ _ _ h => h) (yieldsIf_load_mid (by rfl) 26 _ rfl q 1 rfl (fmC f ta tc ka kc).toList _ (fun W hW => rngE hW rf) Try.underlying26 rfl (by rw [fmE_size f ta tc ka kc, Array.length_toList])) S0 ?_
      simp only [Act.put, List.setIfInBounds_toArray, List.set_cons_zero, List.set_cons_succ]
      refine take_at 2 79 (v := .int .u16 cs) rfl rfl (by kernel_rfl) (by kernel_rfl) (by kernel_rfl) (fun _ _ _ h => h) (Or.inl ⟨by rfl, fun W hW => by go_simp⟩) S0 ?_
      simp only [Act.put, List.setIfInBounds_toArray, List.set_cons_zero, List.set_cons_succ]
      refine take_at 3 80 (v := .pointer (some ⟨K, 3, none⟩)) rfl rfl (by kernel_rfl) (by kernel_rfl) (by kernel_rfl) (fun _ _ _ h => h) (Or.inl ⟨by rfl, fun W hW => by go_simp⟩) S0 ?_
      simp only [Act.put, List.setIfInBounds_toArray, List.set_cons_zero, List.set_cons_succ]
      refine take_at 4 81 (v := .int .u64 cas) rfl rfl (by kernel_rfl) (by kernel_rfl) (by kernel_rfl) (fun _ _ _ h => h) (Or.inl ⟨by rfl, fun W hW => by have c3 := cellE (E6.out.on hW).k 3 (.int .u64 cas) rfl; go_simp⟩) S0 ?_
      simp only [Act.put, List.setIfInBounds_toArray, List.set_cons_zero, List.set_cons_succ]
      refine take_at 5 82 (v := .pointer (some ⟨K, 2, none⟩)) rfl rfl (by kernel_rfl) (by kernel_rfl) (by kernel_rfl) (fun _ _ _ h => h) (Or.inl ⟨by rfl, fun W hW => by go_simp⟩) S0 ?_
      simp only [Act.put, List.setIfInBounds_toArray, List.set_cons_zero, List.set_cons_succ]
      refine take_at 6 83 (v := .int .u32 fl) rfl rfl (by kernel_rfl) (by kernel_rfl) (by kernel_rfl) (fun _ _ _ h => h) (Or.inl ⟨by rfl, fun W hW => by have c3 := cellE (E6.out.on hW).k 2 (.int .u32 fl) rfl; go_simp⟩) S0 ?_
      simp only [Act.put, List.setIfInBounds_toArray, List.set_cons_zero, List.set_cons_succ]
      refine take_at 7 84 (v := .int .u64 fl) rfl rfl (by kernel_rfl) (by kernel_rfl) (by kernel_rfl) (fun _ _ _ h => h) (Or.inl ⟨by rfl, fun W hW => by go_simp⟩) S0 ?_
      simp only [Act.put, List.setIfInBounds_toArray, List.set_cons_zero, List.set_cons_succ]
      refine take_at 9 86 (v := .string key) rfl rfl (by kernel_rfl) (by kernel_rfl) (by kernel_rfl) (fun _ _ _ h => h) (Or.inl ⟨by rfl, fun W hW => by go_simp⟩) S0 ?_
      simp only [Act.put, List.setIfInBounds_toArray, List.set_cons_zero, List.set_cons_succ]
      refine take_at 10 87 (v := .pointer (some ⟨K, 1, none⟩)) rfl rfl (by kernel_rfl) (by kernel_rfl) (by kernel_rfl) (fun _ _ _ h => h) (Or.inl ⟨by rfl, fun W hW => by go_simp⟩) S0 ?_
      simp only [Act.put, List.setIfInBounds_toArray, List.set_cons_zero, List.set_cons_succ]
      refine take_at 11 88 (v := .slice ya val.length yc) rfl rfl (by kernel_rfl) (by kernel_rfl) (by kernel_rfl) (fun _ _ _ h => h) (Or.inl ⟨by rfl, fun W hW => by have c3 := cellE (E6.out.on hW).k 1 (.slice ya val.length yc) rfl; go_simp⟩) S0 ?_
      simp only [Act.put, List.setIfInBounds_toArray, List.set_cons_zero, List.set_cons_succ]
      refine one_at 8 (by kernel_rfl) rfl rfl ?_
      refine oper_call 85 rfl (by go_simp) (HPT.out W7) ?_
      rintro e w8 ⟨g8, rfl, b8_, q8⟩
      refine ⟨_, rfl, gr_trans S0 q8, ?_⟩
      simp only [Act.put, List.setIfInBounds_toArray, List.set_cons_zero, List.set_cons_succ]
      refine wpAnyH_done (by kernel_rfl) ?_ _
      change wpList _ _ _ _ _ _
      have GG := hide (HPK.out w8 (gr_trans S0 q8) g8 b8_)
      have GW := hide (gr_trans E6.out.gr (gr_trans S0 q8))
      clear S0 q8 b8_ HPK HPT
      go_wp2_with (go_at_call 20; refine GG.out.mono ?_; rintro e w9 ⟨a9, n9, c9, rfl, l9, b9, g9⟩; have R9 : Hid (n9 ≤ 100000 ∧ Bu w9 a9 n9 c9 (packA f.code f.opq cs cas (byL (be fl.toNat 4)) key.data.toList val) ∧ w.grownBy w9 none) := ⟨l9, b9, gr_trans GW.out g9⟩; clear l9 b9 g9)
      go_ret
      rw [HX.out]
      exact ⟨_, _, _, rfl, R9.out.1, R9.out.2.1, R9.out.2.2⟩
    · have HX : Hid (oneA f ⟨0, key, cval, cfl, cexp, ccas, cdel, cini, cmk, cse⟩ ⟨0, val, fl, cas, ttl, num, st, won, lost⟩ = packA f.code f.opq cs cas (byL (be fl.toNat 4)) (⟨#[]⟩ : ByteArray).data.toList val) := by
        show _ = _
        rw [oneA_hit (by show hushA f.quiet 0 0 = false; rw [HQ.out]; rfl) rfl, keyA_no hc, HCS.out]
      have b8 : (f.code == 12) = false := by rw [beq_eq_false_iff_ne]; exact fun h => hc (.inl h)
      have b9 : (f.code == 13) = false := by rw [beq_eq_false_iff_ne]; exact fun h => hc (.inr h)
      clear hc
      have HPT := hide (fun W => rput_bu fl.toNat (by have := HF.out; omega) 4 (by decide) W)
      rw [Int.toNat_of_nonneg HF.out.1] at HPT
      have HPK : Hid (∀ (W : World), W6.grownBy W none → ∀ g, Bu W (some ⟨g, 0, none⟩) 4 4 (byL (be fl.toNat 4)) → Calls Try.prog 20 #[.agg (fmC f ta tc ka kc), .int .u16 cs, .int .u64 cas, .slice (some ⟨g, 0, none⟩) 4 4, .string (⟨#[]⟩ : ByteArray), .slice ya val.length yc] W fun e w' => EncE (packA f.code f.opq cs cas (byL (be fl.toNat 4)) (⟨#[]⟩ : ByteArray).data.toList val) W e w') := fun W g gg hb =>
        rpack_E hb (E6.out.on g).v (by decide) (by decide) HV.out HB.out.1 HB.out.2 HC.out.1 HC.out.2 HO.out.1 HO.out.2
      go_wp2
      refine region_htail (S := fun W' => W6.grownBy W' none) 12 (by kernel_rfl) (by simp) (by kernel_rfl) ?_
      simp only [List.take_succ_cons, List.take_zero, List.drop_succ_cons, List.drop_zero]
      have S0 : W6.grownBy W6.drew none := gr_of_below (Below.drew (Below.refl _ _))
      generalize W6.drew = W7 at *
      refine take_at 0 77 (v := .pointer (some ⟨q, 1, none⟩)) rfl rfl (by kernel_rfl) (by kernel_rfl) (by kernel_rfl) (fun _ _ _ h => h) (Or.inl ⟨by rfl, fun W hW => by go_simp⟩) S0 ?_
      simp only [Act.put, List.setIfInBounds_toArray, List.set_cons_zero, List.set_cons_succ]
      refine take_at 1 78 (v := .agg (fmC f ta tc ka kc)) rfl rfl (by kernel_rfl) (by kernel_rfl) (by kernel_rfl) (fun _ _ _ h => h) (yieldsIf_load_mid (by rfl) 26 _ rfl q 1 rfl (fmC f ta tc ka kc).toList _ (fun W hW => rngE hW rf) Try.underlying26 rfl (by rw [fmE_size f ta tc ka kc, Array.length_toList])) S0 ?_
      simp only [Act.put, List.setIfInBounds_toArray, List.set_cons_zero, List.set_cons_succ]
      refine take_at 2 79 (v := .int .u16 cs) rfl rfl (by kernel_rfl) (by kernel_rfl) (by kernel_rfl) (fun _ _ _ h => h) (Or.inl ⟨by rfl, fun W hW => by go_simp⟩) S0 ?_
      simp only [Act.put, List.setIfInBounds_toArray, List.set_cons_zero, List.set_cons_succ]
      refine take_at 3 80 (v := .pointer (some ⟨K, 3, none⟩)) rfl rfl (by kernel_rfl) (by kernel_rfl) (by kernel_rfl) (fun _ _ _ h => h) (Or.inl ⟨by rfl, fun W hW => by go_simp⟩) S0 ?_
      simp only [Act.put, List.setIfInBounds_toArray, List.set_cons_zero, List.set_cons_succ]
      refine take_at 4 81 (v := .int .u64 cas) rfl rfl (by kernel_rfl) (by kernel_rfl) (by kernel_rfl) (fun _ _ _ h => h) (Or.inl ⟨by rfl, fun W hW => by have c3 := cellE (E6.out.on hW).k 3 (.int .u64 cas) rfl; go_simp⟩) S0 ?_
      simp only [Act.put, List.setIfInBounds_toArray, List.set_cons_zero, List.set_cons_succ]
      refine take_at 5 82 (v := .pointer (some ⟨K, 2, none⟩)) rfl rfl (by kernel_rfl) (by kernel_rfl) (by kernel_rfl) (fun _ _ _ h => h) (Or.inl ⟨by rfl, fun W hW => by go_simp⟩) S0 ?_
      simp only [Act.put, List.setIfInBounds_toArray, List.set_cons_zero, List.set_cons_succ]
      refine take_at 6 83 (v := .int .u32 fl) rfl rfl (by kernel_rfl) (by kernel_rfl) (by kernel_rfl) (fun _ _ _ h => h) (Or.inl ⟨by rfl, fun W hW => by have c3 := cellE (E6.out.on hW).k 2 (.int .u32 fl) rfl; go_simp⟩) S0 ?_
      simp only [Act.put, List.setIfInBounds_toArray, List.set_cons_zero, List.set_cons_succ]
      refine take_at 7 84 (v := .int .u64 fl) rfl rfl (by kernel_rfl) (by kernel_rfl) (by kernel_rfl) (fun _ _ _ h => h) (Or.inl ⟨by rfl, fun W hW => by go_simp⟩) S0 ?_
      simp only [Act.put, List.setIfInBounds_toArray, List.set_cons_zero, List.set_cons_succ]
      refine take_at 9 86 (v := .string (⟨#[]⟩ : ByteArray)) rfl rfl (by kernel_rfl) (by kernel_rfl) (by kernel_rfl) (fun _ _ _ h => h) (Or.inl ⟨by rfl, fun W hW => by go_simp⟩) S0 ?_
      simp only [Act.put, List.setIfInBounds_toArray, List.set_cons_zero, List.set_cons_succ]
      refine take_at 10 87 (v := .pointer (some ⟨K, 1, none⟩)) rfl rfl (by kernel_rfl) (by kernel_rfl) (by kernel_rfl) (fun _ _ _ h => h) (Or.inl ⟨by rfl, fun W hW => by go_simp⟩) S0 ?_
      simp only [Act.put, List.setIfInBounds_toArray, List.set_cons_zero, List.set_cons_succ]
      refine take_at 11 88 (v := .slice ya val.length yc) rfl rfl (by kernel_rfl) (by kernel_rfl) (by kernel_rfl) (fun _ _ _ h => h) (Or.inl ⟨by rfl, fun W hW => by have c3 := cellE (E6.out.on hW).k 1 (.slice ya val.length yc) rfl; go_simp⟩) S0 ?_
      simp only [Act.put, List.setIfInBounds_toArray, List.set_cons_zero, List.set_cons_succ]
      refine one_at 8 (by kernel_rfl) rfl rfl ?_
      refine oper_call 85 rfl (by go_simp) (HPT.out W7) ?_
      rintro e w8 ⟨g8, rfl, b8_, q8⟩
      refine ⟨_, rfl, gr_trans S0 q8, ?_⟩
      simp only [Act.put, List.setIfInBounds_toArray, List.set_cons_zero, List.set_cons_succ]
      refine wpAnyH_done (by kernel_rfl) ?_ _
      change wpList _ _ _ _ _ _
      have GG := hide (HPK.out w8 (gr_trans S0 q8) g8 b8_)
      have GW := hide (gr_trans E6.out.gr (gr_trans S0 q8))
      clear S0 q8 b8_ HPK HPT
      go_wp2_with (go_at_call 20; refine GG.out.mono ?_; rintro e w9 ⟨a9, n9, c9, rfl, l9, b9, g9⟩; have R9 : Hid (n9 ≤ 100000 ∧ Bu w9 a9 n9 c9 (packA f.code f.opq cs cas (byL (be fl.toNat 4)) (⟨#[]⟩ : ByteArray).data.toList val) ∧ w.grownBy w9 none) := ⟨l9, b9, gr_trans GW.out g9⟩; clear l9 b9 g9)
      go_ret
      rw [HX.out]
      exact ⟨_, _, _, rfl, R9.out.1, R9.out.2.1, R9.out.2.2⟩
  · have HX : Hid (oneA f ⟨0, key, cval, cfl, cexp, ccas, cdel, cini, cmk, cse⟩ ⟨7, val, fl, cas, ttl, num, st, won, lost⟩ = packA f.code f.opq cs cas [] [] (byL (be num.toNat 8))) := by
      show _ = _
      rw [oneA_num (by show hushA f.quiet 0 7 = false; rw [HQ.out]; rfl) rfl, HCS.out]
    have HPT := hide (fun W => rput_bu num.toNat (by have := HN.out; omega) 8 (by decide) W)
    rw [Int.toNat_of_nonneg HN.out.1] at HPT
    have HPK : Hid (∀ (W : World), W6.grownBy W none → ∀ g, Bu W (some ⟨g, 0, none⟩) 8 8 (byL (be num.toNat 8)) → Calls Try.prog 20 #[.agg (fmC f ta tc ka kc), .int .u16 cs, .int .u64 cas, .slice none 0 0, .string ⟨#[]⟩, .slice (some ⟨g, 0, none⟩) 8 8] W fun e w' => EncE (packA f.code f.opq cs cas [] [] (byL (be num.toNat 8))) W e w') := fun W g gg hb =>
      rpack_E (key := ⟨#[]⟩) (bu_nil W) hb (by decide) (by decide) (by decide) HB.out.1 HB.out.2 HC.out.1 HC.out.2 HO.out.1 HO.out.2
    go_wp2
    refine region_htail (S := fun W' => W6.grownBy W' none) 8 (by kernel_rfl) (by simp) (by kernel_rfl) ?_
    simp only [List.take_succ_cons, List.take_zero, List.drop_succ_cons, List.drop_zero]
    have S0 : W6.grownBy W6.drew none := gr_of_below (Below.drew (Below.refl _ _))
    generalize W6.drew = W7 at *
    refine take_at 0 92 (v := .pointer (some ⟨q, 1, none⟩)) rfl rfl (by kernel_rfl) (by kernel_rfl) (by kernel_rfl) (fun _ _ _ h => h) (Or.inl ⟨by rfl, fun W hW => by go_simp⟩) S0 ?_
    simp only [Act.put, List.setIfInBounds_toArray, List.set_cons_zero, List.set_cons_succ]
    refine take_at 1 93 (v := .agg (fmC f ta tc ka kc)) rfl rfl (by kernel_rfl) (by kernel_rfl) (by kernel_rfl) (fun _ _ _ h => h) (yieldsIf_load_mid (by rfl) 26 _ rfl q 1 rfl (fmC f ta tc ka kc).toList _ (fun W hW => rngE hW rf) Try.underlying26 rfl (by rw [fmE_size f ta tc ka kc, Array.length_toList])) S0 ?_
    simp only [Act.put, List.setIfInBounds_toArray, List.set_cons_zero, List.set_cons_succ]
    refine take_at 2 94 (v := .int .u16 cs) rfl rfl (by kernel_rfl) (by kernel_rfl) (by kernel_rfl) (fun _ _ _ h => h) (Or.inl ⟨by rfl, fun W hW => by go_simp⟩) S0 ?_
    simp only [Act.put, List.setIfInBounds_toArray, List.set_cons_zero, List.set_cons_succ]
    refine take_at 3 95 (v := .pointer (some ⟨K, 3, none⟩)) rfl rfl (by kernel_rfl) (by kernel_rfl) (by kernel_rfl) (fun _ _ _ h => h) (Or.inl ⟨by rfl, fun W hW => by go_simp⟩) S0 ?_
    simp only [Act.put, List.setIfInBounds_toArray, List.set_cons_zero, List.set_cons_succ]
    refine take_at 4 96 (v := .int .u64 cas) rfl rfl (by kernel_rfl) (by kernel_rfl) (by kernel_rfl) (fun _ _ _ h => h) (Or.inl ⟨by rfl, fun W hW => by have c3 := cellE (E6.out.on hW).k 3 (.int .u64 cas) rfl; go_simp⟩) S0 ?_
    simp only [Act.put, List.setIfInBounds_toArray, List.set_cons_zero, List.set_cons_succ]
    refine take_at 5 97 (v := .pointer (some ⟨K, 5, none⟩)) rfl rfl (by kernel_rfl) (by kernel_rfl) (by kernel_rfl) (fun _ _ _ h => h) (Or.inl ⟨by rfl, fun W hW => by go_simp⟩) S0 ?_
    simp only [Act.put, List.setIfInBounds_toArray, List.set_cons_zero, List.set_cons_succ]
    refine take_at 6 98 (v := .int .u64 num) rfl rfl (by kernel_rfl) (by kernel_rfl) (by kernel_rfl) (fun _ _ _ h => h) (Or.inl ⟨by rfl, fun W hW => by have c3 := cellE (E6.out.on hW).k 5 (.int .u64 num) rfl; go_simp⟩) S0 ?_
    simp only [Act.put, List.setIfInBounds_toArray, List.set_cons_zero, List.set_cons_succ]
    refine one_at 7 (by kernel_rfl) rfl rfl ?_
    refine oper_call 99 rfl (by go_simp) (HPT.out W7) ?_
    rintro e w8 ⟨g8, rfl, b8_, q8⟩
    refine ⟨_, rfl, gr_trans S0 q8, ?_⟩
    simp only [Act.put, List.setIfInBounds_toArray, List.set_cons_zero, List.set_cons_succ]
    refine wpAnyH_done (by kernel_rfl) ?_ _
    change wpList _ _ _ _ _ _
    have GG := hide (HPK.out w8 (gr_trans S0 q8) g8 b8_)
    have GW := hide (gr_trans E6.out.gr (gr_trans S0 q8))
    clear S0 q8 b8_ HPK HPT
    go_wp2_with (go_at_call 20; refine GG.out.mono ?_; rintro e w9 ⟨a9, n9, c9, rfl, l9, b9, g9⟩; have R9 : Hid (n9 ≤ 100000 ∧ Bu w9 a9 n9 c9 (packA f.code f.opq cs cas [] [] (byL (be num.toNat 8))) ∧ w.grownBy w9 none) := ⟨l9, b9, gr_trans GW.out g9⟩; clear l9 b9 g9)
    go_ret
    rw [HX.out]
    exact ⟨_, _, _, rfl, R9.out.1, R9.out.2.1, R9.out.2.2⟩
  · have HX : Hid (oneA f ⟨0, key, cval, cfl, cexp, ccas, cdel, cini, cmk, cse⟩ ⟨2, val, fl, cas, ttl, num, st, won, lost⟩ = packA f.code f.opq cs cas [] [] []) := by
      show _ = _
      rw [oneA_put (by show hushA f.quiet 0 2 = false; rw [HQ.out]; rfl) rfl, HCS.out]
    have HPK : Hid (∀ (W : World), W6.grownBy W none → Calls Try.prog 20 #[.agg (fmC f ta tc ka kc), .int .u16 cs, .int .u64 cas, .slice none 0 0, .string ⟨#[]⟩, .slice none 0 0] W fun e w' => EncE (packA f.code f.opq cs cas [] [] []) W e w') := fun W hg =>
      rpack_E (key := ⟨#[]⟩) (bu_nil W) (bu_nil W) (by decide) (by decide) (by decide) HB.out.1 HB.out.2 HC.out.1 HC.out.2 HO.out.1 HO.out.2
    have GG := hide (gr_refl W6 none)
    have GW := hide E6.out.gr
    go_wp2_with (first
      | (refine wpList_load_mid rfl 26 _ rfl q 1 rfl (fmC f ta tc ka kc).toList _ rf Try.underlying26 rfl (by rw [fmE_size f ta tc ka kc, Array.length_toList]) ?_)
      | (go_at_call 20; refine (HPK.out _ GG.out).mono ?_; rintro e w9 ⟨a9, n9, c9, rfl, l9, b9, g9⟩; have R9 : Hid (n9 ≤ 100000 ∧ Bu w9 a9 n9 c9 (packA f.code f.opq cs cas [] [] []) ∧ w.grownBy w9 none) := ⟨l9, b9, gr_trans GW.out g9⟩; clear l9 b9 g9))
    go_ret
    rw [HX.out]
    exact ⟨_, _, _, rfl, R9.out.1, R9.out.2.1, R9.out.2.2⟩
  · have HX : Hid (oneA f ⟨0, key, cval, cfl, cexp, ccas, cdel, cini, cmk, cse⟩ ⟨11, val, fl, cas, ttl, num, st, won, lost⟩ = packA f.code f.opq cs 0 [] [] [49]) := by
      show _ = _
      rw [oneA_ver (by show hushA f.quiet 0 11 = false; rw [HQ.out]; rfl) rfl, HCS.out]
    have HPK : Hid (∀ (W : World), W6.grownBy W none → ∀ g, Bu W (some ⟨g, 0, none⟩) 1 1 [49] → Calls Try.prog 20 #[.agg (fmC f ta tc ka kc), .int .u16 cs, .int .u64 0, .slice none 0 0, .string ⟨#[]⟩, .slice (some ⟨g, 0, none⟩) 1 1] W fun e w' => EncE (packA f.code f.opq cs 0 [] [] [49]) W e w') := fun W hg g hb =>
      rpack_E (key := ⟨#[]⟩) (bu_nil W) hb (by decide) (by decide) (by decide) HB.out.1 HB.out.2 (by decide) (by decide) HO.out.1 HO.out.2
    have GG := hide (gr_refl W6 none)
    have GW := hide E6.out.gr
    go_wp2_with (first
      | (refine wpList_load_mid rfl 26 _ rfl q 1 rfl (fmC f ta tc ka kc).toList _ rf Try.underlying26 rfl (by rw [fmE_size f ta tc ka kc, Array.length_toList]) ?_)
      | (go_at_call 20; refine (HPK.out _ (World.grownBy_alloc W6 _ none) _ (lit_bu W6 [49] (1, 2) (by decide) (by decide))).mono ?_; rintro e w9 ⟨a9, n9, c9, rfl, l9, b9, g9⟩; have R9 : Hid (n9 ≤ 100000 ∧ Bu w9 a9 n9 c9 (packA f.code f.opq cs 0 [] [] [49]) ∧ w.grownBy w9 none) := ⟨l9, b9, gr_trans GW.out (gr_trans (World.grownBy_alloc W6 _ none) g9)⟩; clear l9 b9 g9))
    go_ret
    rw [HX.out]
    exact ⟨_, _, _, rfl, R9.out.1, R9.out.2.1, R9.out.2.2⟩
  · have HX : Hid (oneA f ⟨0, key, cval, cfl, cexp, ccas, cdel, cini, cmk, cse⟩ ⟨s, val, fl, cas, ttl, num, st, won, lost⟩ = packA f.code f.opq cs 0 [] [] []) := by
      show _ = _
      rw [oneA_bare (by show hushA f.quiet 0 s = false; rw [HQ.out]; rfl) h0 h7 h2 h11, HCS.out]
    have HPK : Hid (∀ (W : World), W6.grownBy W none → Calls Try.prog 20 #[.agg (fmC f ta tc ka kc), .int .u16 cs, .int .u64 0, .slice none 0 0, .string ⟨#[]⟩, .slice none 0 0] W fun e w' => EncE (packA f.code f.opq cs 0 [] [] []) W e w') := fun W hg =>
      rpack_E (key := ⟨#[]⟩) (bu_nil W) (bu_nil W) (by decide) (by decide) (by decide) HB.out.1 HB.out.2 (by decide) (by decide) HO.out.1 HO.out.2
    have d0 := eq_false h0
    have d7 := eq_false h7
    have d2 := eq_false h2
    have d11 := eq_false h11
    clear h0 h7 h2 h11
    have GG := hide (gr_refl W6 none)
    have GW := hide E6.out.gr
    go_wp2_with (first
      | (refine wpList_load_mid rfl 26 _ rfl q 1 rfl (fmC f ta tc ka kc).toList _ rf Try.underlying26 rfl (by rw [fmE_size f ta tc ka kc, Array.length_toList]) ?_)
      | (go_at_call 20; refine (HPK.out _ GG.out).mono ?_; rintro e w9 ⟨a9, n9, c9, rfl, l9, b9, g9⟩; have R9 : Hid (n9 ≤ 100000 ∧ Bu w9 a9 n9 c9 (packA f.code f.opq cs 0 [] [] []) ∧ w.grownBy w9 none) := ⟨l9, b9, gr_trans GW.out g9⟩; clear l9 b9 g9))
    go_ret
    rw [HX.out]
    exact ⟨_, _, _, rfl, R9.out.1, R9.out.2.1, R9.out.2.2⟩
end
end Go.Proofs.Ytaafkefgpgoepaa

namespace Go.Proofs.Ytaafkefgpgoepaa
set_option linter.unusedVariables false
open Go.RowKit Go.Shelf

section
variable {w : World}
set_option maxRecDepth 100000 in
set_option maxHeartbeats 16000000 in
theorem renc_H2 {f : Fv} {n m cc tc kc lc : Nat} {ta ka va ya : Option Addr} {cb co vc lb lo yc : Nat}  {key : ByteArray} {cval : List UInt8} {cfl cexp ccas cdel cini : Int} {cmk cse : Bool} {s : Int} {val : List UInt8} {fl cas ttl num : Int} {st won lost : Bool}
    (H : EncH w f n m ⟨1, key, cval, cfl, cexp, ccas, cdel, cini, cmk, cse⟩ ⟨s, val, fl, cas, ttl, num, st, won, lost⟩ (some ⟨cb, co, none⟩) cb co va vc lb lo ya yc) (hq : f.quiet = false)   :
    Calls Try.prog 11 #[.agg (rqG f n (some ⟨cb, co, none⟩) cc ta tc ka kc), .slice (some ⟨lb, lo, none⟩) m lc] w fun e w' => EncE (oneA f ⟨1, key, cval, cfl, cexp, ccas, cdel, cini, cmk, cse⟩ ⟨s, val, fl, cas, ttl, num, st, won, lost⟩) w e w' := by
  obtain ⟨n0, m0, hk, hv, o0, o1, ok, c_, x_, v_⟩ := H
  obtain ⟨f0, f1, k0, k1, u0, u1⟩ := ok
  obtain ⟨cs, hcs⟩ : ∃ cs, cs = codeN s := ⟨_, rfl⟩
  have cb_ := codeN_bd s
  rw [← hcs] at cb_
  simp only [] at hk hv f0 f1 k0 k1 u0 u1 v_
  have z1 : ((n : Int) == 0) = false := by rw [beq_eq_false_iff_ne]; omega
  have z2 : ((m : Int) == 0) = false := by rw [beq_eq_false_iff_ne]; omega
  have z3 : (0 : Int) < (n : Int) := by omega
  have z4 : (0 : Int) < (m : Int) := by omega
  have z5 : ¬ (65535 : Int) < (key.size : Int) := by omega
  have z6 : IntKind.u64.wrap fl = fl := by rw [IntKind.wrap_u64]; omega
  have HK := hide hk
  have HV := hide hv
  have HF : Hid (0 ≤ fl ∧ fl < 4294967296) := ⟨f0, f1⟩
  have HN : Hid (0 ≤ num ∧ num < 18446744073709551616) := ⟨u0, u1⟩
  have HC : Hid (0 ≤ cas ∧ cas < 18446744073709551616) := ⟨k0, k1⟩
  have HO : Hid (0 ≤ f.opq ∧ f.opq < 4294967296) := ⟨o0, o1⟩
  have HB := hide cb_
  have HQ := hide hq
  have HCS := hide hcs
  have HR := hide (fun W => rcode_any s W)
  rw [← hcs] at HR
  have kcv := fun (w : World) (C : Array Value) (n c : Nat) => Lib.run_convert_bytes_const (P := Try.prog) w 32 5 C n c Try.underlying32 Try.underlying5
  obtain ⟨V, hV⟩ : ∃ V, V = w.alloc (.cells (rqG f n (some ⟨cb, co, none⟩) cc ta tc ka kc) 28) := ⟨_, rfl⟩
  obtain ⟨q, hqq⟩ : ∃ q, q = w.heap.size := ⟨_, rfl⟩
  obtain ⟨W5, hW5⟩ : ∃ W5, W5 = V.alloc (.cells (cmC ⟨1, key, cval, cfl, cexp, ccas, cdel, cini, cmk, cse⟩ va vc) 48) := ⟨_, rfl⟩
  obtain ⟨P, hP⟩ : ∃ P, P = V.heap.size := ⟨_, rfl⟩
  obtain ⟨W6, hW6⟩ : ∃ W6, W6 = W5.alloc (.cells (rsC ⟨s, val, fl, cas, ttl, num, st, won, lost⟩ ya yc) 46) := ⟨_, rfl⟩
  obtain ⟨K, hK⟩ : ∃ K, K = W5.heap.size := ⟨_, rfl⟩
  have E6 := eb_new w V W5 W6 f n (some ⟨cb, co, none⟩) cc ta tc ka kc ⟨1, key, cval, cfl, cexp, ccas, cdel, cini, cmk, cse⟩ va vc ⟨s, val, fl, cas, ttl, num, st, won, lost⟩ ya yc hV hW5 hW6 v_
  rw [← hqq, ← hP, ← hK] at E6
  have gV : w.grownBy V none := by rw [hV]; exact World.grownBy_alloc _ _ _
  have rV : V.heap[q]? = some (.cells (rqG f n (some ⟨cb, co, none⟩) cc ta tc ka kc) 28 (0, 0)) := by rw [hV, hqq]; exact World.alloc_heap_new _ _
  have a0 := cellE rV 0 (.slice (some ⟨cb, co, none⟩) n cc) rfl
  have rc := rngE gV c_
  have rx := rngE (gr_trans gV (by rw [hW5]; exact World.grownBy_alloc _ _ _ : V.grownBy W5 none)) x_
  have a1 := cellE E6.k 0 (.int .i64 s) rfl
  have a2 := cellE E6.p 0 (.int .i64 1) rfl
  have a3 := cellE E6.q 5 (.bool f.quiet) rfl
  have a4 := cellE E6.q 3 (.int .i64 f.code) rfl
  have a5 := cellE E6.p 1 (.string key) rfl
  have a6 := cellE E6.k 3 (.int .u64 cas) rfl
  have rf := E6.form
  rw [hq] at a3
  replace E6 := hide E6
  replace hW5 := hide hW5
  replace hW6 := hide hW6
  replace hP := hide hP
  replace hK := hide hK
  simp only [rqG] at hV ⊢
  clear n0 m0 hk hv o0 o1 f0 f1 k0 k1 u0 u1 c_ x_ v_ cb_ hcs gV rV hq
  go_enter Try.func11, Try.ntmps11
  go_upto_region 1 with fail
  rw [← hV, ← hqq]
  clear hV hqq
  have N1 : Hid (w = w) := rfl
  go_upto_region 9 with (first
    | (have t := N1; clear t; refine wpList_load_mid rfl 48 _ rfl cb co rfl (cmC ⟨1, key, cval, cfl, cexp, ccas, cdel, cini, cmk, cse⟩ va vc).toList _ rc Try.underlying48 rfl (by rw [cmd_size ⟨1, key, cval, cfl, cexp, ccas, cdel, cini, cmk, cse⟩ va vc, Array.length_toList]) ?_; clear rc)
    | (have t := N1; clear t; refine wpList_store_row rfl 48 _ _ rfl V.heap.size (cmC ⟨1, key, cval, cfl, cexp, ccas, cdel, cini, cmk, cse⟩ va vc) rfl rfl _ _ (World.alloc_heap_new V _) (cmd_size _ _ _) rfl (cmd_one _ _ _) ?_; rw [setRow_alloc, ← hW5.out, ← hP.out]; clear N1; have N2 : Hid (w = w) := rfl)
    | (have t := N2; clear t; refine wpList_load_mid rfl 46 _ rfl lb lo rfl (rsC ⟨s, val, fl, cas, ttl, num, st, won, lost⟩ ya yc).toList _ rx Try.underlying46 rfl (by rw [res_size ⟨s, val, fl, cas, ttl, num, st, won, lost⟩ ya yc, Array.length_toList]) ?_; clear rx)
    | (have t := N2; clear t; refine wpList_store_row rfl 46 _ _ rfl W5.heap.size (rsC ⟨s, val, fl, cas, ttl, num, st, won, lost⟩ ya yc) rfl rfl _ _ (World.alloc_heap_new W5 _) (res_size _ _ _) rfl (res_one _ _ _) ?_; rw [setRow_alloc, ← hW6.out, ← hK.out]; clear N2)
    | (go_at_call 13; refine (HR.out _).mono ?_; rintro e w7 ⟨rfl, hw7⟩; rw [hw7]; clear hw7 HR))
  rcases stat_ways s with rfl | rfl | rfl | rfl | ⟨h0, h7, h2, h11⟩
  · rcases code_ways f.code with hc | hc | hc
    · have HX : Hid (oneA f ⟨1, key, cval, cfl, cexp, ccas, cdel, cini, cmk, cse⟩ ⟨0, val, fl, cas, ttl, num, st, won, lost⟩ = packA f.code f.opq cs cas (byL (be fl.toNat 4)) key.data.toList val) := by
        show _ = _
        rw [oneA_hit (by show hushA f.quiet 1 0 = false; rw [HQ.out]; rfl) rfl, keyA_yes (.inl hc) HK.out, HCS.out]
      rw [hc] at a4
      clear hc
      have HPT := hide (fun W => rput_bu fl.toNat (by have := HF.out; omega) 4 (by decide) W)
      rw [Int.toNat_of_nonneg HF.out.1] at HPT
      have HPK : Hid (∀ (W : World), W6.grownBy W none → ∀ g, Bu W (some ⟨g, 0, none⟩) 4 4 (byL (be fl.toNat 4)) → Calls Try.prog 20 #[.agg (fmC f ta tc ka kc), .int .u16 cs, .int .u64 cas, .slice (some ⟨g, 0, none⟩) 4 4, .string key, .slice ya val.length yc] W fun e w' => EncE (packA f.code f.opq cs cas (byL (be fl.toNat 4)) key.data.toList val) W e w') := fun W g gg hb =>
        rpack_E hb (E6.out.on g).v (by decide) (HK.out) HV.out HB.out.1 HB.out.2 HC.out.1 HC.out.2 HO.out.1 HO.out.2
      go_wp2
      refine region_htail (S := fun W' => W6.grownBy W' none) 12 (by kernel_rfl) (by simp) (by kernel_rfl) ?_
      simp only [List.take_succ_cons, List.take_zero, List.drop_succ_cons, List.drop_zero]
      have S0 : W6.grownBy W6.drew none := gr_of_below (Below.drew (Below.refl _ _))
      generalize W6.drew = W7 at *
      refine take_at 0 77 (v := .pointer (some ⟨q, 1, none⟩)) rfl rfl (by kernel_rfl) (by kernel_rfl) (by kernel_rfl) (fun _ _ _ h => h) (Or.inl ⟨by rfl, fun W hW => by go_simp⟩) S0 ?_
      simp only [Act.put, List.setIfInBounds_toArray, List.set_cons_zero, List.set_cons_succ]
      refine take_at 1 78 (v := .agg (fmC f ta tc ka kc)) rfl rfl (by kernel_rfl) (by kernel_rfl) (by kernel_rfl) (fun _ _ _ h => h) (yieldsIf_load_mid (by rfl) 26 _ rfl q 1 rfl (fmC f ta tc ka kc).toList _ (fun W hW => rngE hW rf) Try.underlying26 rfl (by rw [fmE_size f ta tc ka kc, Array.length_toList])) S0 ?_
      simp only [Act.put, List.setIfInBounds_toArray, List.set_cons_zero, List.set_cons_succ]
      refine take_at 2 79 (v := .int .u16 cs) rfl rfl (by kernel_rfl) (by kernel_rfl) (by kernel_rfl) (fun _ _ _ h => h) (Or.inl ⟨by rfl, fun W hW => by go_simp⟩) S0 ?_
      simp only [Act.put, List.setIfInBounds_toArray, List.set_cons_zero, List.set_cons_succ]
      refine take_at 3 80 (v := .pointer (some ⟨K, 3, none⟩)) rfl rfl (by kernel_rfl) (by kernel_rfl) (by kernel_rfl) (fun _ _ _ h => h) (Or.inl ⟨by rfl, fun W hW => by go_simp⟩) S0 ?_
      simp only [Act.put, List.setIfInBounds_toArray, List.set_cons_zero, List.set_cons_succ]
      refine take_at 4 81 (v := .int .u64 cas) rfl rfl (by kernel_rfl) (by kernel_rfl) (by kernel_rfl) (fun _ _ _ h => h) (Or.inl ⟨by rfl, fun W hW => by have c3 := cellE (E6.out.on hW).k 3 (.int .u64 cas) rfl; go_simp⟩) S0 ?_
      simp only [Act.put, List.setIfInBounds_toArray, List.set_cons_zero, List.set_cons_succ]
      refine take_at 5 82 (v := .pointer (some ⟨K, 2, none⟩)) rfl rfl (by kernel_rfl) (by kernel_rfl) (by kernel_rfl) (fun _ _ _ h => h) (Or.inl ⟨by rfl, fun W hW => by go_simp⟩) S0 ?_
      simp only [Act.put, List.setIfInBounds_toArray, List.set_cons_zero, List.set_cons_succ]
      refine take_at 6 83 (v := .int .u32 fl) rfl rfl (by kernel_rfl) (by kernel_rfl) (by kernel_rfl) (fun _ _ _ h => h) (Or.inl ⟨by rfl, fun W hW => by have c3 := cellE (E6.out.on hW).k 2 (.int .u32 fl) rfl; go_simp⟩) S0 ?_
      simp only [Act.put, List.setIfInBounds_toArray, List.set_cons_zero, List.set_cons_succ]
      refine take_at 7 84 (v := .int .u64 fl) rfl rfl (by kernel_rfl) (by kernel_rfl) (by kernel_rfl) (fun _ _ _ h => h) (Or.inl ⟨by rfl, fun W hW => by go_simp⟩) S0 ?_
      simp only [Act.put, List.setIfInBounds_toArray, List.set_cons_zero, List.set_cons_succ]
      refine take_at 9 86 (v := .string key) rfl rfl (by kernel_rfl) (by kernel_rfl) (by kernel_rfl) (fun _ _ _ h => h) (Or.inl ⟨by rfl, fun W hW => by go_simp⟩) S0 ?_
      simp only [Act.put, List.setIfInBounds_toArray, List.set_cons_zero, List.set_cons_succ]
      refine take_at 10 87 (v := .pointer (some ⟨K, 1, none⟩)) rfl rfl (by kernel_rfl) (by kernel_rfl) (by kernel_rfl) (fun _ _ _ h => h) (Or.inl ⟨by rfl, fun W hW => by go_simp⟩) S0 ?_
      simp only [Act.put, List.setIfInBounds_toArray, List.set_cons_zero, List.set_cons_succ]
      refine take_at 11 88 (v := .slice ya val.length yc) rfl rfl (by kernel_rfl) (by kernel_rfl) (by kernel_rfl) (fun _ _ _ h => h) (Or.inl ⟨by rfl, fun W hW => by have c3 := cellE (E6.out.on hW).k 1 (.slice ya val.length yc) rfl; go_simp⟩) S0 ?_
      simp only [Act.put, List.setIfInBounds_toArray, List.set_cons_zero, List.set_cons_succ]
      refine one_at 8 (by kernel_rfl) rfl rfl ?_
      refine oper_call 85 rfl (by go_simp) (HPT.out W7) ?_
      rintro e w8 ⟨g8, rfl, b8_, q8⟩
      refine ⟨_, rfl, gr_trans S0 q8, ?_⟩
      simp only [Act.put, List.setIfInBounds_toArray, List.set_cons_zero, List.set_cons_succ]
      refine wpAnyH_done (by kernel_rfl) ?_ _
      change wpList _ _ _ _ _ _
      have GG := hide (HPK.out w8 (gr_trans S0 q8) g8 b8_)
      have GW := hide (gr_trans E6.out.gr (gr_trans S0 q8))
      clear S0 q8 b8_ HPK HPT
      go_wp2_with (go_at_call 20; refine GG.out.mono ?_; rintro e w9 ⟨a9, n9, c9, rfl, l9, b9, g9⟩; have R9 : Hid (n9 ≤ 100000 ∧ Bu w9 a9 n9 c9 (packA f.code f.opq cs cas (byL (be fl.toNat 4)) key.data.toList val) ∧ w.grownBy w9 none) := ⟨l9, b9, gr_trans GW.out g9⟩; clear l9 b9 g9)
      go_ret
      rw [HX.out]
      exact ⟨_, _, _, rfl, R9.out.1, R9.out.2.1, R9.out.2.2⟩
    · have HX : Hid (oneA f ⟨1, key, cval, cfl, cexp, ccas, cdel, cini, cmk, cse⟩ ⟨0, val, fl, cas, ttl, num, st, won, lost⟩ = packA f.code f.opq cs cas (byL (be fl.toNat 4)) key.data.toList val) := by
        show _ = _
        rw [oneA_hit (by show hushA f.quiet 1 0 = false; rw [HQ.out]; rfl) rfl, keyA_yes (.inr hc) HK.out, HCS.out]
      rw [hc] at a4
      clear hc
      have HPT := hide (fun W => rput_bu fl.toNat (by have := HF.out; omega) 4 (by decide) W)
      rw [Int.toNat_of_nonneg HF.out.1] at HPT
      have HPK : Hid (∀ (W : World), W6.grownBy W none → ∀ g, Bu W (some ⟨g, 0, none⟩) 4 4 (byL (be fl.toNat 4)) → Calls Try.prog 20 #[.agg (fmC f ta tc ka kc), .int .u16 cs, .int .u64 cas, .slice (some ⟨g, 0, none⟩) 4 4, .string key, .slice ya val.length yc] W fun e w' => EncE (packA f.code f.opq cs cas (byL (be fl.toNat 4)) key.data.toList val) W e w') := fun W g gg hb =>
        rpack_E hb (E6.out.on g).v (by decide) (HK.out) HV.out HB.out.1 HB.out.2 HC.out.1 HC.out.2 HO.out.1 HO.out.2
      go_wp2
      refine region_htail (S := fun W' => W6.grownBy W' none) 12 (by kernel_rfl) (by simp) (by kernel_rfl) ?_
      simp only [List.take_succ_cons, List.take_zero, List.drop_succ_cons, List.drop_zero]
      have S0 : W6.grownBy W6.drew none := gr_of_below (Below.drew (Below.refl _ _))
      generalize W6.drew = W7 at *
      refine take_at 0 77 (v := .pointer (some ⟨q, 1, none⟩)) rfl rfl (by kernel_rfl) (by kernel_rfl) (by kernel_rfl) (fun _ _ _ h => h) (Or.inl ⟨by rfl, fun W hW => by go_simp⟩) S0 ?_
      simp only [Act.put, List.setIfInBounds_toArray, List.set_cons_zero, List.set_cons_succ]
      refine take_at 1 78 (v := .agg (fmC f ta tc ka kc)) rfl rfl (by kernel_rfl) (by kernel_rfl) (by kernel_rfl) (fun _ _ _ h => h) (yieldsIf_load_mid (by rfl) 26 _ rfl q 1 rfl (fmC f ta tc ka kc).toList _ (fun W hW => rngE hW rf) Try.underlying26 rfl (by rw [fmE_size f ta tc ka kc, Array.length_toList])) S0 ?_
      simp only [Act.put, List.setIfInBounds_toArray, List.set_cons_zero, List.set_cons_succ]
      refine take_at 2 79 (v := .int .u16 cs) rfl rfl (by kernel_rfl) (by kernel_rfl) (by kernel_rfl) (fun _ _ _ h => h) (Or.inl ⟨by rfl, fun W hW => by go_simp⟩) S0 ?_
      simp only [Act.put, List.setIfInBounds_toArray, List.set_cons_zero, List.set_cons_succ]
      refine take_at 3 80 (v := .pointer (some ⟨K, 3, none⟩)) rfl rfl (by kernel_rfl) (by kernel_rfl) (by kernel_rfl) (fun _ _ _ h => h) (Or.inl ⟨by rfl, fun W hW => by go_simp⟩) S0 ?_
      simp only [Act.put, List.setIfInBounds_toArray, List.set_cons_zero, List.set_cons_succ]
      refine take_at 4 81 (v := .int .u64 cas) rfl rfl (by kernel_rfl) (by kernel_rfl) (by kernel_rfl) (fun _ _ _ h => h) (Or.inl ⟨by rfl, fun W hW => by have c3 := cellE (E6.out.on hW).k 3 (.int .u64 cas) rfl; go_simp⟩) S0 ?_
      simp only [Act.put, List.setIfInBounds_toArray, List.set_cons_zero, List.set_cons_succ]
      refine take_at 5 82 (v := .pointer (some ⟨K, 2, none⟩)) rfl rfl (by kernel_rfl) (by kernel_rfl) (by kernel_rfl) (fun _ _ _ h => h) (Or.inl ⟨by rfl, fun W hW => by go_simp⟩) S0 ?_
      simp only [Act.put, List.setIfInBounds_toArray, List.set_cons_zero, List.set_cons_succ]
      refine take_at 6 83 (v := .int .u32 fl) rfl rfl (by kernel_rfl) (by kernel_rfl) (by kernel_rfl) (fun _ _ _ h => h) (Or.inl ⟨by rfl, fun W hW => by have c3 := cellE (E6.out.on hW).k 2 (.int .u32 fl) rfl; go_simp⟩) S0 ?_
      simp only [Act.put, List.setIfInBounds_toArray, List.set_cons_zero, List.set_cons_succ]
      refine take_at 7 84 (v := .int .u64 fl) rfl rfl (by kernel_rfl) (by kernel_rfl) (by kernel_rfl) (fun _ _ _ h => h) (Or.inl ⟨by rfl, fun W hW => by go_simp⟩) S0 ?_
      simp only [Act.put, List.setIfInBounds_toArray, List.set_cons_zero, List.set_cons_succ]
      refine take_at 9 86 (v := .string key) rfl rfl (by kernel_rfl) (by kernel_rfl) (by kernel_rfl) (fun _ _ _ h => h) (Or.inl ⟨by rfl, fun W hW => by go_simp⟩) S0 ?_
      simp only [Act.put, List.setIfInBounds_toArray, List.set_cons_zero, List.set_cons_succ]
      refine take_at 10 87 (v := .pointer (some ⟨K, 1, none⟩)) rfl rfl (by kernel_rfl) (by kernel_rfl) (by kernel_rfl) (fun _ _ _ h => h) (Or.inl ⟨by rfl, fun W hW => by go_simp⟩) S0 ?_
      simp only [Act.put, List.setIfInBounds_toArray, List.set_cons_zero, List.set_cons_succ]
      refine take_at 11 88 (v := .slice ya val.length yc) rfl rfl (by kernel_rfl) (by kernel_rfl) (by kernel_rfl) (fun _ _ _ h => h) (Or.inl ⟨by rfl, fun W hW => by have c3 := cellE (E6.out.on hW).k 1 (.slice ya val.length yc) rfl; go_simp⟩) S0 ?_
      simp only [Act.put, List.setIfInBounds_toArray, List.set_cons_zero, List.set_cons_succ]
      refine one_at 8 (by kernel_rfl) rfl rfl ?_
      refine oper_call 85 rfl (by go_simp) (HPT.out W7) ?_
      rintro e w8 ⟨g8, rfl, b8_, q8⟩
      refine ⟨_, rfl, gr_trans S0 q8, ?_⟩
      simp only [Act.put, List.setIfInBounds_toArray, List.set_cons_zero, List.set_cons_succ]
      refine wpAnyH_done (by kernel_rfl) ?_ _
      change wpList _ _ _ _ _ _
      have GG := hide (HPK.out w8 (gr_trans S0 q8) g8 b8_)
      have GW := hide (gr_trans E6.out.gr (gr_trans S0 q8))
      clear S0 q8 b8_ HPK HPT
      go_wp2_with (go_at_call 20; refine GG.out.mono ?_; rintro e w9 ⟨a9, n9, c9, rfl, l9, b9, g9⟩; have R9 : Hid (n9 ≤ 100000 ∧ Bu w9 a9 n9 c9 (packA f.code f.opq cs cas (byL (be fl.toNat 4)) key.data.toList val) ∧ w.grownBy w9 none) := ⟨l9, b9, gr_trans GW.out g9⟩; clear l9 b9 g9)
      go_ret
      rw [HX.out]
      exact ⟨_, _, _, rfl, R9.out.1, R9.out.2.1, R9.out.2.2⟩
    · have HX : Hid (oneA f ⟨1, key, cval, cfl, cexp, ccas, cdel, cini, cmk, cse⟩ ⟨0, val, fl, cas, ttl, num, st, won, lost⟩ = packA f.code f.opq cs cas (byL (be fl.toNat 4)) (⟨#[]⟩ : ByteArray).data.toList val) := by
        show _ = _
        rw [oneA_hit (by show hushA f.quiet 1 0 = false; rw [HQ.out]; rfl) rfl, keyA_no hc, HCS.out]
      have b8 : (f.code == 12) = false := by rw [beq_eq_false_iff_ne]; exact fun h => hc (.inl h)
      have b9 : (f.code == 13) = false := by rw [beq_eq_false_iff_ne]; exact fun h => hc (.inr h)
      clear hc
      have HPT := hide (fun W => rput_bu fl.toNat (by have := HF.out; omega) 4 (by decide) W)
      rw [Int.toNat_of_nonneg HF.out.1] at HPT
      have HPK : Hid (∀ (W : World), W6.grownBy W none → ∀ g, Bu W (some ⟨g, 0, none⟩) 4 4 (byL (be fl.toNat 4)) → Calls Try.prog 20 #[.agg (fmC f ta tc ka kc), .int .u16 cs, .int .u64 cas, .slice (some ⟨g, 0, none⟩) 4 4, .string (⟨#[]⟩ : ByteArray), .slice ya val.length yc] W fun e w' => EncE (packA f.code f.opq cs cas (byL (be fl.toNat 4)) (⟨#[]⟩ : ByteArray).data.toList val) W e w') := fun W g gg hb =>
        rpack_E hb (E6.out.on g).v (by decide) (by decide) HV.out HB.out.1 HB.out.2 HC.out.1 HC.out.2 HO.out.1 HO.out.2
      go_wp2
      refine region_htail (S := fun W' => W6.grownBy W' none) 12 (by kernel_rfl) (by simp) (by kernel_rfl) ?_
      simp only [List.take_succ_cons, List.take_zero, List.drop_succ_cons, List.drop_zero]
      have S0 : W6.grownBy W6.drew none := gr_of_below (Below.drew (Below.refl _ _))
      generalize W6.drew = W7 at *
      refine take_at 0 77 (v := .pointer (some ⟨q, 1, none⟩)) rfl rfl (by kernel_rfl) (by kernel_rfl) (by kernel_rfl) (fun _ _ _ h => h) (Or.inl ⟨by rfl, fun W hW => by go_simp⟩) S0 ?_
      simp only [Act.put, List.setIfInBounds_toArray, List.set_cons_zero, List.set_cons_succ]
      refine take_at 1 78 (v := .agg (fmC f ta tc ka kc)) rfl rfl (by kernel_rfl) (by kernel_rfl) (by kernel_rfl) (fun _ _ _ h => h) (yieldsIf_load_mid (by rfl) 26 _ rfl q 1 rfl (fmC f ta tc ka kc).toList _ (fun W hW => rngE hW rf) Try.underlying26 rfl (by rw [fmE_size f ta tc ka kc, Array.length_toList])) S0 ?_
      simp only [Act.put, List.setIfInBounds_toArray, List.set_cons_zero, List.set_cons_succ]
      refine take_at 2 79 (v := .int .u16 cs) rfl rfl (by kernel_rfl) (by kernel_rfl) (by kernel_rfl) (fun _ _ _ h => h) (Or.inl ⟨by rfl, fun W hW => by go_simp⟩) S0 ?_
      simp only [Act.put, List.setIfInBounds_toArray, List.set_cons_zero, List.set_cons_succ]
      refine take_at 3 80 (v := .pointer (some ⟨K, 3, none⟩)) rfl rfl (by kernel_rfl) (by kernel_rfl) (by kernel_rfl) (fun _ _ _ h => h) (Or.inl ⟨by rfl, fun W hW => by go_simp⟩) S0 ?_
      simp only [Act.put, List.setIfInBounds_toArray, List.set_cons_zero, List.set_cons_succ]
      refine take_at 4 81 (v := .int .u64 cas) rfl rfl (by kernel_rfl) (by kernel_rfl) (by kernel_rfl) (fun _ _ _ h => h) (Or.inl ⟨by rfl, fun W hW => by have c3 := cellE (E6.out.on hW).k 3 (.int .u64 cas) rfl; go_simp⟩) S0 ?_
      simp only [Act.put, List.setIfInBounds_toArray, List.set_cons_zero, List.set_cons_succ]
      refine take_at 5 82 (v := .pointer (some ⟨K, 2, none⟩)) rfl rfl (by kernel_rfl) (by kernel_rfl) (by kernel_rfl) (fun _ _ _ h => h) (Or.inl ⟨by rfl, fun W hW => by go_simp⟩) S0 ?_
      simp only [Act.put, List.setIfInBounds_toArray, List.set_cons_zero, List.set_cons_succ]
      refine take_at 6 83 (v := .int .u32 fl) rfl rfl (by kernel_rfl) (by kernel_rfl) (by kernel_rfl) (fun _ _ _ h => h) (Or.inl ⟨by rfl, fun W hW => by have c3 := cellE (E6.out.on hW).k 2 (.int .u32 fl) rfl; go_simp⟩) S0 ?_
      simp only [Act.put, List.setIfInBounds_toArray, List.set_cons_zero, List.set_cons_succ]
      refine take_at 7 84 (v := .int .u64 fl) rfl rfl (by kernel_rfl) (by kernel_rfl) (by kernel_rfl) (fun _ _ _ h => h) (Or.inl ⟨by rfl, fun W hW => by go_simp⟩) S0 ?_
      simp only [Act.put, List.setIfInBounds_toArray, List.set_cons_zero, List.set_cons_succ]
      refine take_at 9 86 (v := .string (⟨#[]⟩ : ByteArray)) rfl rfl (by kernel_rfl) (by kernel_rfl) (by kernel_rfl) (fun _ _ _ h => h) (Or.inl ⟨by rfl, fun W hW => by go_simp⟩) S0 ?_
      simp only [Act.put, List.setIfInBounds_toArray, List.set_cons_zero, List.set_cons_succ]
      refine take_at 10 87 (v := .pointer (some ⟨K, 1, none⟩)) rfl rfl (by kernel_rfl) (by kernel_rfl) (by kernel_rfl) (fun _ _ _ h => h) (Or.inl ⟨by rfl, fun W hW => by go_simp⟩) S0 ?_
      simp only [Act.put, List.setIfInBounds_toArray, List.set_cons_zero, List.set_cons_succ]
      refine take_at 11 88 (v := .slice ya val.length yc) rfl rfl (by kernel_rfl) (by kernel_rfl) (by kernel_rfl) (fun _ _ _ h => h) (Or.inl ⟨by rfl, fun W hW => by have c3 := cellE (E6.out.on hW).k 1 (.slice ya val.length yc) rfl; go_simp⟩) S0 ?_
      simp only [Act.put, List.setIfInBounds_toArray, List.set_cons_zero, List.set_cons_succ]
      refine one_at 8 (by kernel_rfl) rfl rfl ?_
      refine oper_call 85 rfl (by go_simp) (HPT.out W7) ?_
      rintro e w8 ⟨g8, rfl, b8_, q8⟩
      refine ⟨_, rfl, gr_trans S0 q8, ?_⟩
      simp only [Act.put, List.setIfInBounds_toArray, List.set_cons_zero, List.set_cons_succ]
      refine wpAnyH_done (by kernel_rfl) ?_ _
      change wpList _ _ _ _ _ _
      have GG := hide (HPK.out w8 (gr_trans S0 q8) g8 b8_)
      have GW := hide (gr_trans E6.out.gr (gr_trans S0 q8))
      clear S0 q8 b8_ HPK HPT
      go_wp2_with (go_at_call 20; refine GG.out.mono ?_; rintro e w9 ⟨a9, n9, c9, rfl, l9, b9, g9⟩; have R9 : Hid (n9 ≤ 100000 ∧ Bu w9 a9 n9 c9 (packA f.code f.opq cs cas (byL (be fl.toNat 4)) (⟨#[]⟩ : ByteArray).data.toList val) ∧ w.grownBy w9 none) := ⟨l9, b9, gr_trans GW.out g9⟩; clear l9 b9 g9)
      go_ret
      rw [HX.out]
      exact ⟨_, _, _, rfl, R9.out.1, R9.out.2.1, R9.out.2.2⟩
  · have HX : Hid (oneA f ⟨1, key, cval, cfl, cexp, ccas, cdel, cini, cmk, cse⟩ ⟨7, val, fl, cas, ttl, num, st, won, lost⟩ = packA f.code f.opq cs cas [] [] (byL (be num.toNat 8))) := by
      show _ = _
      rw [oneA_num (by show hushA f.quiet 1 7 = false; rw [HQ.out]; rfl) rfl, HCS.out]
    have HPT := hide (fun W => rput_bu num.toNat (by have := HN.out; omega) 8 (by decide) W)
    rw [Int.toNat_of_nonneg HN.out.1] at HPT
    have HPK : Hid (∀ (W : World), W6.grownBy W none → ∀ g, Bu W (some ⟨g, 0, none⟩) 8 8 (byL (be num.toNat 8)) → Calls Try.prog 20 #[.agg (fmC f ta tc ka kc), .int .u16 cs, .int .u64 cas, .slice none 0 0, .string ⟨#[]⟩, .slice (some ⟨g, 0, none⟩) 8 8] W fun e w' => EncE (packA f.code f.opq cs cas [] [] (byL (be num.toNat 8))) W e w') := fun W g gg hb =>
      rpack_E (key := ⟨#[]⟩) (bu_nil W) hb (by decide) (by decide) (by decide) HB.out.1 HB.out.2 HC.out.1 HC.out.2 HO.out.1 HO.out.2
    go_wp2
    refine region_htail (S := fun W' => W6.grownBy W' none) 8 (by kernel_rfl) (by simp) (by kernel_rfl) ?_
    simp only [List.take_succ_cons, List.take_zero, List.drop_succ_cons, List.drop_zero]
    have S0 : W6.grownBy W6.drew none := gr_of_below (Below.drew (Below.refl _ _))
    generalize W6.drew = W7 at *
    refine take_at 0 92 (v := .pointer (some ⟨q, 1, none⟩)) rfl rfl (by kernel_rfl) (by kernel_rfl) (by kernel_rfl) (fun _ _ _ h => h) (Or.inl ⟨by rfl, fun W hW => by go_simp⟩) S0 ?_
    simp only [Act.put, List.setIfInBounds_toArray, List.set_cons_zero, List.set_cons_succ]
    refine take_at 1 93 (v := .agg (fmC f ta tc ka kc)) rfl rfl (by kernel_rfl) (by kernel_rfl) (by kernel_rfl) (fun _ _ _ h => h) (yieldsIf_load_mid (by rfl) 26 _ rfl q 1 rfl (fmC f ta tc ka kc).toList _ (fun W hW => rngE hW rf) Try.underlying26 rfl (by rw [fmE_size f ta tc ka kc, Array.length_toList])) S0 ?_
    simp only [Act.put, List.setIfInBounds_toArray, List.set_cons_zero, List.set_cons_succ]
    refine take_at 2 94 (v := .int .u16 cs) rfl rfl (by kernel_rfl) (by kernel_rfl) (by kernel_rfl) (fun _ _ _ h => h) (Or.inl ⟨by rfl, fun W hW => by go_simp⟩) S0 ?_
    simp only [Act.put, List.setIfInBounds_toArray, List.set_cons_zero, List.set_cons_succ]
    refine take_at 3 95 (v := .pointer (some ⟨K, 3, none⟩)) rfl rfl (by kernel_rfl) (by kernel_rfl) (by kernel_rfl) (fun _ _ _ h => h) (Or.inl ⟨by rfl, fun W hW => by go_simp⟩) S0 ?_
    simp only [Act.put, List.setIfInBounds_toArray, List.set_cons_zero, List.set_cons_succ]
    refine take_at 4 96 (v := .int .u64 cas) rfl rfl (by kernel_rfl) (by kernel_rfl) (by kernel_rfl) (fun _ _ _ h => h) (Or.inl ⟨by rfl, fun W hW => by have c3 := cellE (E6.out.on hW).k 3 (.int .u64 cas) rfl; go_simp⟩) S0 ?_
    simp only [Act.put, List.setIfInBounds_toArray, List.set_cons_zero, List.set_cons_succ]
    refine take_at 5 97 (v := .pointer (some ⟨K, 5, none⟩)) rfl rfl (by kernel_rfl) (by kernel_rfl) (by kernel_rfl) (fun _ _ _ h => h) (Or.inl ⟨by rfl, fun W hW => by go_simp⟩) S0 ?_
    simp only [Act.put, List.setIfInBounds_toArray, List.set_cons_zero, List.set_cons_succ]
    refine take_at 6 98 (v := .int .u64 num) rfl rfl (by kernel_rfl) (by kernel_rfl) (by kernel_rfl) (fun _ _ _ h => h) (Or.inl ⟨by rfl, fun W hW => by have c3 := cellE (E6.out.on hW).k 5 (.int .u64 num) rfl; go_simp⟩) S0 ?_
    simp only [Act.put, List.setIfInBounds_toArray, List.set_cons_zero, List.set_cons_succ]
    refine one_at 7 (by kernel_rfl) rfl rfl ?_
    refine oper_call 99 rfl (by go_simp) (HPT.out W7) ?_
    rintro e w8 ⟨g8, rfl, b8_, q8⟩
    refine ⟨_, rfl, gr_trans S0 q8, ?_⟩
    simp only [Act.put, List.setIfInBounds_toArray, List.set_cons_zero, List.set_cons_succ]
    refine wpAnyH_done (by kernel_rfl) ?_ _
    change wpList _ _ _ _ _ _
    have GG := hide (HPK.out w8 (gr_trans S0 q8) g8 b8_)
    have GW := hide (gr_trans E6.out.gr (gr_trans S0 q8))
    clear S0 q8 b8_ HPK HPT
    go_wp2_with (go_at_call 20; refine GG.out.mono ?_; rintro e w9 ⟨a9, n9, c9, rfl, l9, b9, g9⟩; have R9 : Hid (n9 ≤ 100000 ∧ Bu w9 a9 n9 c9 (packA f.code f.opq cs cas [] [] (byL (be num.toNat 8))) ∧ w.grownBy w9 none) := ⟨l9, b9, gr_trans GW.out g9⟩; clear l9 b9 g9)
    go_ret
    rw [HX.out]
    exact ⟨_, _, _, rfl, R9.out.1, R9.out.2.1, R9.out.2.2⟩
  · have HX : Hid (oneA f ⟨1, key, cval, cfl, cexp, ccas, cdel, cini, cmk, cse⟩ ⟨2, val, fl, cas, ttl, num, st, won, lost⟩ = packA f.code f.opq cs cas [] [] []) := by
      show _ = _
      rw [oneA_put (by show hushA f.quiet 1 2 = false; rw [HQ.out]; rfl) rfl, HCS.out]
    have HPK : Hid (∀ (W : World), W6.grownBy W none → Calls Try.prog 20 #[.agg (fmC f ta tc ka kc), .int .u16 cs, .int .u64 cas, .slice none 0 0, .string ⟨#[]⟩, .slice none 0 0] W fun e w' => EncE (packA f.code f.opq cs cas [] [] []) W e w') := fun W hg =>
      rpack_E (key := ⟨#[]⟩) (bu_nil W) (bu_nil W) (by decide) (by decide) (by decide) HB.out.1 HB.out.2 HC.out.1 HC.out.2 HO.out.1 HO.out.2
    have GG := hide (gr_refl W6 none)
    have GW := hide E6.out.gr
    go_wp2_with (first
      | (refine wpList_load_mid rfl 26 _ rfl q 1 rfl (fmC f ta tc ka kc).toList _ rf Try.underlying26 rfl (by rw [fmE_size f ta tc ka kc, Array.length_toList]) ?_)
      | (go_at_call 20; refine (HPK.out _ GG.out).mono ?_; rintro e w9 ⟨a9, n9, c9, rfl, l9, b9, g9⟩; have R9 : Hid (n9 ≤ 100000 ∧ Bu w9 a9 n9 c9 (packA f.code f.opq cs cas [] [] []) ∧ w.grownBy w9 none) := ⟨l9, b9, gr_trans GW.out g9⟩; clear l9 b9 g9))
    go_ret
    rw [HX.out]
    exact ⟨_, _, _, rfl, R9.out.1, R9.out.2.1, R9.out.2.2⟩
  · have HX : Hid (oneA f ⟨1, key, cval, cfl, cexp, ccas, cdel, cini, cmk, cse⟩ ⟨11, val, fl, cas, ttl, num, st, won, lost⟩ = packA f.code f.opq cs 0 [] [] [49]) := by
      show _ = _
      rw [oneA_ver (by show hushA f.quiet 1 11 = false; rw [HQ.out]; rfl) rfl, HCS.out]
    have HPK : Hid (∀ (W : World), W6.grownBy W none → ∀ g, Bu W (some ⟨g, 0, none⟩) 1 1 [49] → Calls Try.prog 20 #[.agg (fmC f ta tc ka kc), .int .u16 cs, .int .u64 0, .slice none 0 0, .string ⟨#[]⟩, .slice (some ⟨g, 0, none⟩) 1 1] W fun e w' => EncE (packA f.code f.opq cs 0 [] [] [49]) W e w') := fun W hg g hb =>
      rpack_E (key := ⟨#[]⟩) (bu_nil W) hb (by decide) (by decide) (by decide) HB.out.1 HB.out.2 (by decide) (by decide) HO.out.1 HO.out.2
    have GG := hide (gr_refl W6 none)
    have GW := hide E6.out.gr
    go_wp2_with (first
      | (refine wpList_load_mid rfl 26 _ rfl q 1 rfl (fmC f ta tc ka kc).toList _ rf Try.underlying26 rfl (by rw [fmE_size f ta tc ka kc, Array.length_toList]) ?_)
      | (go_at_call 20; refine (HPK.out _ (World.grownBy_alloc W6 _ none) _ (lit_bu W6 [49] (1, 2) (by decide) (by decide))).mono ?_; rintro e w9 ⟨a9, n9, c9, rfl, l9, b9, g9⟩; have R9 : Hid (n9 ≤ 100000 ∧ Bu w9 a9 n9 c9 (packA f.code f.opq cs 0 [] [] [49]) ∧ w.grownBy w9 none) := ⟨l9, b9, gr_trans GW.out (gr_trans (World.grownBy_alloc W6 _ none) g9)⟩; clear l9 b9 g9))
    go_ret
    rw [HX.out]
    exact ⟨_, _, _, rfl, R9.out.1, R9.out.2.1, R9.out.2.2⟩
  · have HX : Hid (oneA f ⟨1, key, cval, cfl, cexp, ccas, cdel, cini, cmk, cse⟩ ⟨s, val, fl, cas, ttl, num, st, won, lost⟩ = packA f.code f.opq cs 0 [] [] []) := by
      show _ = _
      rw [oneA_bare (by show hushA f.quiet 1 s = false; rw [HQ.out]; rfl) h0 h7 h2 h11, HCS.out]
    have HPK : Hid (∀ (W : World), W6.grownBy W none → Calls Try.prog 20 #[.agg (fmC f ta tc ka kc), .int .u16 cs, .int .u64 0, .slice none 0 0, .string ⟨#[]⟩, .slice none 0 0] W fun e w' => EncE (packA f.code f.opq cs 0 [] [] []) W e w') := fun W hg =>
      rpack_E (key := ⟨#[]⟩) (bu_nil W) (bu_nil W) (by decide) (by decide) (by decide) HB.out.1 HB.out.2 (by decide) (by decide) HO.out.1 HO.out.2
    have d0 := eq_false h0
    have d7 := eq_false h7
    have d2 := eq_false h2
    have d11 := eq_false h11
    clear h0 h7 h2 h11
    have GG := hide (gr_refl W6 none)
    have GW := hide E6.out.gr
    go_wp2_with (first
      | (refine wpList_load_mid rfl 26 _ rfl q 1 rfl (fmC f ta tc ka kc).toList _ rf Try.underlying26 rfl (by rw [fmE_size f ta tc ka kc, Array.length_toList]) ?_)
      | (go_at_call 20; refine (HPK.out _ GG.out).mono ?_; rintro e w9 ⟨a9, n9, c9, rfl, l9, b9, g9⟩; have R9 : Hid (n9 ≤ 100000 ∧ Bu w9 a9 n9 c9 (packA f.code f.opq cs 0 [] [] []) ∧ w.grownBy w9 none) := ⟨l9, b9, gr_trans GW.out g9⟩; clear l9 b9 g9))
    go_ret
    rw [HX.out]
    exact ⟨_, _, _, rfl, R9.out.1, R9.out.2.1, R9.out.2.2⟩
end
end Go.Proofs.Ytaafkefgpgoepaa
