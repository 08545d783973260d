/- The document's own answers of the binary dialect: none. Conditions: a key of at most 1000 bytes, a value of at most 2000. -/
import Derived.Test.YtaafkefgpgoepaaG38Joined
import Derived.Deep.Cut
namespace Go.Proofs.Ytaafkefgpgoepaa
set_option linter.unusedVariables false
open Go.RowKit Go.Shelf

section
variable {w : World}
set_option maxRecDepth 100000 in
set_option maxHeartbeats 16000000 in
theorem renc_S1 {f : Fv} {n m cc tc kc lc : Nat} {ta ka va ya : Option Addr} {cb co vc lb lo yc : Nat}  {key : ByteArray} {cval : List UInt8} {cfl cexp ccas cdel cini : Int} {cmk cse : Bool}  {val : List UInt8} {fl cas ttl num : Int} {st won lost : Bool}
    (H : EncH w f n m ⟨0, key, cval, cfl, cexp, ccas, cdel, cini, cmk, cse⟩ ⟨1, val, fl, cas, ttl, num, st, won, lost⟩ (some ⟨cb, co, none⟩) cb co va vc lb lo ya yc) (hq : f.quiet = true)   :
    Calls Try.prog 11 #[.agg (rqG f n (some ⟨cb, co, none⟩) cc ta tc ka kc), .slice (some ⟨lb, lo, none⟩) m lc] w fun e w' => EncE (oneA f ⟨0, key, cval, cfl, cexp, ccas, cdel, cini, cmk, cse⟩ ⟨1, val, fl, cas, ttl, num, st, won, lost⟩) w e w' := by
  obtain ⟨n0, m0, hk, hv, o0, o1, ok, c_, x_, v_⟩ := H
  obtain ⟨f0, f1, k0, k1, u0, u1⟩ := ok
  obtain ⟨cs, hcs⟩ : ∃ cs, cs = codeN 1 := ⟨_, rfl⟩
  have cb_ := codeN_bd 1
  rw [← hcs] at cb_
  simp only [] at hk hv f0 f1 k0 k1 u0 u1 v_
  have z1 : ((n : Int) == 0) = false := by rw [beq_eq_false_iff_ne]; omega
  have z2 : ((m : Int) == 0) = false := by rw [beq_eq_false_iff_ne]; omega
  have z3 : (0 : Int) < (n : Int) := by omega
  have z4 : (0 : Int) < (m : Int) := by omega
  have z5 : ¬ (65535 : Int) < (key.size : Int) := by omega
  have z6 : IntKind.u64.wrap fl = fl := by rw [IntKind.wrap_u64]; omega
  have HK := hide hk
  have HV := hide hv
  have HF : Hid (0 ≤ fl ∧ fl < 4294967296) := ⟨f0, f1⟩
  have HN : Hid (0 ≤ num ∧ num < 18446744073709551616) := ⟨u0, u1⟩
  have HC : Hid (0 ≤ cas ∧ cas < 18446744073709551616) := ⟨k0, k1⟩
  have HO : Hid (0 ≤ f.opq ∧ f.opq < 4294967296) := ⟨o0, o1⟩
  have HB := hide cb_
  have HQ := hide hq
  have HCS := hide hcs
  have HR := hide (fun W => rcode_any 1 W)
  rw [← hcs] at HR
  have kcv := fun (w : World) (C : Array Value) (n c : Nat) => Lib.run_convert_bytes_const (P := Try.prog) w 32 5 C n c Try.underlying32 Try.underlying5
  obtain ⟨V, hV⟩ : ∃ V, V = w.alloc (.cells (rqG f n (some ⟨cb, co, none⟩) cc ta tc ka kc) 28) := ⟨_, rfl⟩
  obtain ⟨q, hqq⟩ : ∃ q, q = w.heap.size := ⟨_, rfl⟩
  obtain ⟨W5, hW5⟩ : ∃ W5, W5 = V.alloc (.cells (cmC ⟨0, key, cval, cfl, cexp, ccas, cdel, cini, cmk, cse⟩ va vc) 48) := ⟨_, rfl⟩
  obtain ⟨P, hP⟩ : ∃ P, P = V.heap.size := ⟨_, rfl⟩
  obtain ⟨W6, hW6⟩ : ∃ W6, W6 = W5.alloc (.cells (rsC ⟨1, val, fl, cas, ttl, num, st, won, lost⟩ ya yc) 46) := ⟨_, rfl⟩
  obtain ⟨K, hK⟩ : ∃ K, K = W5.heap.size := ⟨_, rfl⟩
  have E6 := eb_new w V W5 W6 f n (some ⟨cb, co, none⟩) cc ta tc ka kc ⟨0, key, cval, cfl, cexp, ccas, cdel, cini, cmk, cse⟩ va vc ⟨1, val, fl, cas, ttl, num, st, won, lost⟩ ya yc hV hW5 hW6 v_
  rw [← hqq, ← hP, ← hK] at E6
  have gV : w.grownBy V none := by rw [hV]; exact World.grownBy_alloc _ _ _
  have rV : V.heap[q]? = some (.cells (rqG f n (some ⟨cb, co, none⟩) cc ta tc ka kc) 28 (0, 0)) := by rw [hV, hqq]; exact World.alloc_heap_new _ _
  have a0 := cellE rV 0 (.slice (some ⟨cb, co, none⟩) n cc) rfl
  have rc := rngE gV c_
  have rx := rngE (gr_trans gV (by rw [hW5]; exact World.grownBy_alloc _ _ _ : V.grownBy W5 none)) x_
  have a1 := cellE E6.k 0 (.int .i64 1) rfl
  have a2 := cellE E6.p 0 (.int .i64 0) rfl
  have a3 := cellE E6.q 5 (.bool f.quiet) rfl
  have a4 := cellE E6.q 3 (.int .i64 f.code) rfl
  have a5 := cellE E6.p 1 (.string key) rfl
  have a6 := cellE E6.k 3 (.int .u64 cas) rfl
  have rf := E6.form
  rw [hq] at a3
  replace E6 := hide E6
  replace hW5 := hide hW5
  replace hW6 := hide hW6
  replace hP := hide hP
  replace hK := hide hK
  simp only [rqG] at hV ⊢
  clear n0 m0 hk hv o0 o1 f0 f1 k0 k1 u0 u1 c_ x_ v_ cb_ hcs gV rV hq
  go_enter Try.func11, Try.ntmps11
  go_upto_region 1 with fail
  rw [← hV, ← hqq]
  clear hV hqq
  have N1 : Hid (w = w) := rfl
  go_wp2_with (first
    | (have t := N1; clear t; refine wpList_load_mid rfl 48 _ rfl cb co rfl (cmC ⟨0, key, cval, cfl, cexp, ccas, cdel, cini, cmk, cse⟩ va vc).toList _ rc Try.underlying48 rfl (by rw [cmd_size ⟨0, key, cval, cfl, cexp, ccas, cdel, cini, cmk, cse⟩ va vc, Array.length_toList]) ?_; clear rc)
    | (have t := N1; clear t; refine wpList_store_row rfl 48 _ _ rfl V.heap.size (cmC ⟨0, key, cval, cfl, cexp, ccas, cdel, cini, cmk, cse⟩ va vc) rfl rfl _ _ (World.alloc_heap_new V _) (cmd_size _ _ _) rfl (cmd_one _ _ _) ?_; rw [setRow_alloc, ← hW5.out, ← hP.out]; clear N1; have N2 : Hid (w = w) := rfl)
    | (have t := N2; clear t; refine wpList_load_mid rfl 46 _ rfl lb lo rfl (rsC ⟨1, val, fl, cas, ttl, num, st, won, lost⟩ ya yc).toList _ rx Try.underlying46 rfl (by rw [res_size ⟨1, val, fl, cas, ttl, num, st, won, lost⟩ ya yc, Array.length_toList]) ?_; clear rx)
    | (have t := N2; clear t; refine wpList_store_row rfl 46 _ _ rfl W5.heap.size (rsC ⟨1, val, fl, cas, ttl, num, st, won, lost⟩ ya yc) rfl rfl _ _ (World.alloc_heap_new W5 _) (res_size _ _ _) rfl (res_one _ _ _) ?_; rw [setRow_alloc, ← hW6.out, ← hK.out]; clear N2)
    | (go_at_call 13; refine (HR.out _).mono ?_; rintro e w7 ⟨rfl, hw7⟩; rw [hw7]; clear hw7 HR))
  go_ret
  rw [oneA_hush (by show hushA f.quiet 0 1 = true; rw [HQ.out, hush_get (by decide)]; rfl)]
  exact EncE.nil E6.out.gr
set_option maxRecDepth 100000 in
set_option maxHeartbeats 16000000 in
theorem renc_S2 {f : Fv} {n m cc tc kc lc : Nat} {ta ka va ya : Option Addr} {cb co vc lb lo yc : Nat}  {key : ByteArray} {cval : List UInt8} {cfl cexp ccas cdel cini : Int} {cmk cse : Bool}  {val : List UInt8} {fl cas ttl num : Int} {st won lost : Bool}
    (H : EncH w f n m ⟨1, key, cval, cfl, cexp, ccas, cdel, cini, cmk, cse⟩ ⟨1, val, fl, cas, ttl, num, st, won, lost⟩ (some ⟨cb, co, none⟩) cb co va vc lb lo ya yc) (hq : f.quiet = true)   :
    Calls Try.prog 11 #[.agg (rqG f n (some ⟨cb, co, none⟩) cc ta tc ka kc), .slice (some ⟨lb, lo, none⟩) m lc] w fun e w' => EncE (oneA f ⟨1, key, cval, cfl, cexp, ccas, cdel, cini, cmk, cse⟩ ⟨1, val, fl, cas, ttl, num, st, won, lost⟩) w e w' := by
  obtain ⟨n0, m0, hk, hv, o0, o1, ok, c_, x_, v_⟩ := H
  obtain ⟨f0, f1, k0, k1, u0, u1⟩ := ok
  obtain ⟨cs, hcs⟩ : ∃ cs, cs = codeN 1 := ⟨_, rfl⟩
  have cb_ := codeN_bd 1
  rw [← hcs] at cb_
  simp only [] at hk hv f0 f1 k0 k1 u0 u1 v_
  have z1 : ((n : Int) == 0) = false := by rw [beq_eq_false_iff_ne]; omega
  have z2 : ((m : Int) == 0) = false := by rw [beq_eq_false_iff_ne]; omega
  have z3 : (0 : Int) < (n : Int) := by omega
  have z4 : (0 : Int) < (m : Int) := by omega
  have z5 : ¬ (65535 : Int) < (key.size : Int) := by omega
  have z6 : IntKind.u64.wrap fl = fl := by rw [IntKind.wrap_u64]; omega
  have HK := hide hk
  have HV := hide hv
  have HF : Hid (0 ≤ fl ∧ fl < 4294967296) := ⟨f0, f1⟩
  have HN : Hid (0 ≤ num ∧ num < 18446744073709551616) := ⟨u0, u1⟩
  have HC : Hid (0 ≤ cas ∧ cas < 18446744073709551616) := ⟨k0, k1⟩
  have HO : Hid (0 ≤ f.opq ∧ f.opq < 4294967296) := ⟨o0, o1⟩
  have HB := hide cb_
  have HQ := hide hq
  have HCS := hide hcs
  have HR := hide (fun W => rcode_any 1 W)
  rw [← hcs] at HR
  have kcv := fun (w : World) (C : Array Value) (n c : Nat) => Lib.run_convert_bytes_const (P := Try.prog) w 32 5 C n c Try.underlying32 Try.underlying5
  obtain ⟨V, hV⟩ : ∃ V, V = w.alloc (.cells (rqG f n (some ⟨cb, co, none⟩) cc ta tc ka kc) 28) := ⟨_, rfl⟩
  obtain ⟨q, hqq⟩ : ∃ q, q = w.heap.size := ⟨_, rfl⟩
  obtain ⟨W5, hW5⟩ : ∃ W5, W5 = V.alloc (.cells (cmC ⟨1, key, cval, cfl, cexp, ccas, cdel, cini, cmk, cse⟩ va vc) 48) := ⟨_, rfl⟩
  obtain ⟨P, hP⟩ : ∃ P, P = V.heap.size := ⟨_, rfl⟩
  obtain ⟨W6, hW6⟩ : ∃ W6, W6 = W5.alloc (.cells (rsC ⟨1, val, fl, cas, ttl, num, st, won, lost⟩ ya yc) 46) := ⟨_, rfl⟩
  obtain ⟨K, hK⟩ : ∃ K, K = W5.heap.size := ⟨_, rfl⟩
  have E6 := eb_new w V W5 W6 f n (some ⟨cb, co, none⟩) cc ta tc ka kc ⟨1, key, cval, cfl, cexp, ccas, cdel, cini, cmk, cse⟩ va vc ⟨1, val, fl, cas, ttl, num, st, won, lost⟩ ya yc hV hW5 hW6 v_
  rw [← hqq, ← hP, ← hK] at E6
  have gV : w.grownBy V none := by rw [hV]; exact World.grownBy_alloc _ _ _
  have rV : V.heap[q]? = some (.cells (rqG f n (some ⟨cb, co, none⟩) cc ta tc ka kc) 28 (0, 0)) := by rw [hV, hqq]; exact World.alloc_heap_new _ _
  have a0 := cellE rV 0 (.slice (some ⟨cb, co, none⟩) n cc) rfl
  have rc := rngE gV c_
  have rx := rngE (gr_trans gV (by rw [hW5]; exact World.grownBy_alloc _ _ _ : V.grownBy W5 none)) x_
  have a1 := cellE E6.k 0 (.int .i64 1) rfl
  have a2 := cellE E6.p 0 (.int .i64 1) rfl
  have a3 := cellE E6.q 5 (.bool f.quiet) rfl
  have a4 := cellE E6.q 3 (.int .i64 f.code) rfl
  have a5 := cellE E6.p 1 (.string key) rfl
  have a6 := cellE E6.k 3 (.int .u64 cas) rfl
  have rf := E6.form
  rw [hq] at a3
  replace E6 := hide E6
  replace hW5 := hide hW5
  replace hW6 := hide hW6
  replace hP := hide hP
  replace hK := hide hK
  simp only [rqG] at hV ⊢
  clear n0 m0 hk hv o0 o1 f0 f1 k0 k1 u0 u1 c_ x_ v_ cb_ hcs gV rV hq
  go_enter Try.func11, Try.ntmps11
  go_upto_region 1 with fail
  rw [← hV, ← hqq]
  clear hV hqq
  have N1 : Hid (w = w) := rfl
  go_wp2_with (first
    | (have t := N1; clear t; refine wpList_load_mid rfl 48 _ rfl cb co rfl (cmC ⟨1, key, cval, cfl, cexp, ccas, cdel, cini, cmk, cse⟩ va vc).toList _ rc Try.underlying48 rfl (by rw [cmd_size ⟨1, key, cval, cfl, cexp, ccas, cdel, cini, cmk, cse⟩ va vc, Array.length_toList]) ?_; clear rc)
    | (have t := N1; clear t; refine wpList_store_row rfl 48 _ _ rfl V.heap.size (cmC ⟨1, key, cval, cfl, cexp, ccas, cdel, cini, cmk, cse⟩ va vc) rfl rfl _ _ (World.alloc_heap_new V _) (cmd_size _ _ _) rfl (cmd_one _ _ _) ?_; rw [setRow_alloc, ← hW5.out, ← hP.out]; clear N1; have N2 : Hid (w = w) := rfl)
    | (have t := N2; clear t; refine wpList_load_mid rfl 46 _ rfl lb lo rfl (rsC ⟨1, val, fl, cas, ttl, num, st, won, lost⟩ ya yc).toList _ rx Try.underlying46 rfl (by rw [res_size ⟨1, val, fl, cas, ttl, num, st, won, lost⟩ ya yc, Array.length_toList]) ?_; clear rx)
    | (have t := N2; clear t; refine wpList_store_row rfl 46 _ _ rfl W5.heap.size (rsC ⟨1, val, fl, cas, ttl, num, st, won, lost⟩ ya yc) rfl rfl _ _ (World.alloc_heap_new W5 _) (res_size _ _ _) rfl (res_one _ _ _) ?_; rw [setRow_alloc, ← hW6.out, ← hK.out]; clear N2)
    | (go_at_call 13; refine (HR.out _).mono ?_; rintro e w7 ⟨rfl, hw7⟩; rw [hw7]; clear hw7 HR))
  go_ret
  rw [oneA_hush (by show hushA f.quiet 1 1 = true; rw [HQ.out, hush_get (by decide)]; rfl)]
  exact EncE.nil E6.out.gr
set_option maxRecDepth 100000 in
set_option maxHeartbeats 16000000 in
theorem renc_S3 {f : Fv} {n m cc tc kc lc : Nat} {ta ka va ya : Option Addr} {cb co vc lb lo yc : Nat} {op : Int} {key : ByteArray} {cval : List UInt8} {cfl cexp ccas cdel cini : Int} {cmk cse : Bool} {s : Int} {val : List UInt8} {fl cas ttl num : Int} {st won lost : Bool}
    (H : EncH w f n m ⟨op, key, cval, cfl, cexp, ccas, cdel, cini, cmk, cse⟩ ⟨s, val, fl, cas, ttl, num, st, won, lost⟩ (some ⟨cb, co, none⟩) cb co va vc lb lo ya yc) (hq : f.quiet = true) (hop : ¬ (op = 0 ∨ op = 1)) (hc0 : codeN s = 0) :
    Calls Try.prog 11 #[.agg (rqG f n (some ⟨cb, co, none⟩) cc ta tc ka kc), .slice (some ⟨lb, lo, none⟩) m lc] w fun e w' => EncE (oneA f ⟨op, key, cval, cfl, cexp, ccas, cdel, cini, cmk, cse⟩ ⟨s, val, fl, cas, ttl, num, st, won, lost⟩) w e w' := by
  obtain ⟨n0, m0, hk, hv, o0, o1, ok, c_, x_, v_⟩ := H
  obtain ⟨f0, f1, k0, k1, u0, u1⟩ := ok
  obtain ⟨cs, hcs⟩ : ∃ cs, cs = codeN s := ⟨_, rfl⟩
  have cb_ := codeN_bd s
  rw [← hcs] at cb_
  simp only [] at hk hv f0 f1 k0 k1 u0 u1 v_
  have z1 : ((n : Int) == 0) = false := by rw [beq_eq_false_iff_ne]; omega
  have z2 : ((m : Int) == 0) = false := by rw [beq_eq_false_iff_ne]; omega
  have z3 : (0 : Int) < (n : Int) := by omega
  have z4 : (0 : Int) < (m : Int) := by omega
  have z5 : ¬ (65535 : Int) < (key.size : Int) := by omega
  have z6 : IntKind.u64.wrap fl = fl := by rw [IntKind.wrap_u64]; omega
  have HK := hide hk
  have HV := hide hv
  have HF : Hid (0 ≤ fl ∧ fl < 4294967296) := ⟨f0, f1⟩
  have HN : Hid (0 ≤ num ∧ num < 18446744073709551616) := ⟨u0, u1⟩
  have HC : Hid (0 ≤ cas ∧ cas < 18446744073709551616) := ⟨k0, k1⟩
  have HO : Hid (0 ≤ f.opq ∧ f.opq < 4294967296) := ⟨o0, o1⟩
  have HB := hide cb_
  have HQ := hide hq
  have HCS := hide hcs
  have HR := hide (fun W => rcode_any s W)
  rw [← hcs] at HR
  have kcv := fun (w : World) (C : Array Value) (n c : Nat) => Lib.run_convert_bytes_const (P := Try.prog) w 32 5 C n c Try.underlying32 Try.underlying5
  have b0 : (op == 0) = false := by rw [beq_eq_false_iff_ne]; exact fun h => hop (.inl h)
  have b1 : (op == 1) = false := by rw [beq_eq_false_iff_ne]; exact fun h => hop (.inr h)
  have HOP := hide hop
  have b2 : (cs == 0) = true := by rw [beq_iff_eq, hcs]; exact hc0
  have HC0 := hide hc0
  obtain ⟨V, hV⟩ : ∃ V, V = w.alloc (.cells (rqG f n (some ⟨cb, co, none⟩) cc ta tc ka kc) 28) := ⟨_, rfl⟩
  obtain ⟨q, hqq⟩ : ∃ q, q = w.heap.size := ⟨_, rfl⟩
  obtain ⟨W5, hW5⟩ : ∃ W5, W5 = V.alloc (.cells (cmC ⟨op, key, cval, cfl, cexp, ccas, cdel, cini, cmk, cse⟩ va vc) 48) := ⟨_, rfl⟩
  obtain ⟨P, hP⟩ : ∃ P, P = V.heap.size := ⟨_, rfl⟩
  obtain ⟨W6, hW6⟩ : ∃ W6, W6 = W5.alloc (.cells (rsC ⟨s, val, fl, cas, ttl, num, st, won, lost⟩ ya yc) 46) := ⟨_, rfl⟩
  obtain ⟨K, hK⟩ : ∃ K, K = W5.heap.size := ⟨_, rfl⟩
  have E6 := eb_new w V W5 W6 f n (some ⟨cb, co, none⟩) cc ta tc ka kc ⟨op, key, cval, cfl, cexp, ccas, cdel, cini, cmk, cse⟩ va vc ⟨s, val, fl, cas, ttl, num, st, won, lost⟩ ya yc hV hW5 hW6 v_
  rw [← hqq, ← hP, ← hK] at E6
  have gV : w.grownBy V none := by rw [hV]; exact World.grownBy_alloc _ _ _
  have rV : V.heap[q]? = some (.cells (rqG f n (some ⟨cb, co, none⟩) cc ta tc ka kc) 28 (0, 0)) := by rw [hV, hqq]; exact World.alloc_heap_new _ _
  have a0 := cellE rV 0 (.slice (some ⟨cb, co, none⟩) n cc) rfl
  have rc := rngE gV c_
  have rx := rngE (gr_trans gV (by rw [hW5]; exact World.grownBy_alloc _ _ _ : V.grownBy W5 none)) x_
  have a1 := cellE E6.k 0 (.int .i64 s) rfl
  have a2 := cellE E6.p 0 (.int .i64 op) rfl
  have a3 := cellE E6.q 5 (.bool f.quiet) rfl
  have a4 := cellE E6.q 3 (.int .i64 f.code) rfl
  have a5 := cellE E6.p 1 (.string key) rfl
  have a6 := cellE E6.k 3 (.int .u64 cas) rfl
  have rf := E6.form
  rw [hq] at a3
  replace E6 := hide E6
  replace hW5 := hide hW5
  replace hW6 := hide hW6
  replace hP := hide hP
  replace hK := hide hK
  simp only [rqG] at hV ⊢
  clear n0 m0 hk hv o0 o1 f0 f1 k0 k1 u0 u1 c_ x_ v_ cb_ hcs gV rV hq
  go_enter Try.func11, Try.ntmps11
  go_upto_region 1 with fail
  rw [← hV, ← hqq]
  clear hV hqq
  have N1 : Hid (w = w) := rfl
  go_wp2_with (first
    | (have t := N1; clear t; refine wpList_load_mid rfl 48 _ rfl cb co rfl (cmC ⟨op, key, cval, cfl, cexp, ccas, cdel, cini, cmk, cse⟩ va vc).toList _ rc Try.underlying48 rfl (by rw [cmd_size ⟨op, key, cval, cfl, cexp, ccas, cdel, cini, cmk, cse⟩ va vc, Array.length_toList]) ?_; clear rc)
    | (have t := N1; clear t; refine wpList_store_row rfl 48 _ _ rfl V.heap.size (cmC ⟨op, key, cval, cfl, cexp, ccas, cdel, cini, cmk, cse⟩ va vc) rfl rfl _ _ (World.alloc_heap_new V _) (cmd_size _ _ _) rfl (cmd_one _ _ _) ?_; rw [setRow_alloc, ← hW5.out, ← hP.out]; clear N1; have N2 : Hid (w = w) := rfl)
    | (have t := N2; clear t; refine wpList_load_mid rfl 46 _ rfl lb lo rfl (rsC ⟨s, val, fl, cas, ttl, num, st, won, lost⟩ ya yc).toList _ rx Try.underlying46 rfl (by rw [res_size ⟨s, val, fl, cas, ttl, num, st, won, lost⟩ ya yc, Array.length_toList]) ?_; clear rx)
    | (have t := N2; clear t; refine wpList_store_row rfl 46 _ _ rfl W5.heap.size (rsC ⟨s, val, fl, cas, ttl, num, st, won, lost⟩ ya yc) rfl rfl _ _ (World.alloc_heap_new W5 _) (res_size _ _ _) rfl (res_one _ _ _) ?_; rw [setRow_alloc, ← hW6.out, ← hK.out]; clear N2)
    | (go_at_call 13; refine (HR.out _).mono ?_; rintro e w7 ⟨rfl, hw7⟩; rw [hw7]; clear hw7 HR))
  go_ret
  rw [oneA_hush (by show hushA f.quiet op s = true; rw [HQ.out, hush_other HOP.out]; exact decide_eq_true HC0.out)]
  exact EncE.nil E6.out.gr
end
end Go.Proofs.Ytaafkefgpgoepaa
