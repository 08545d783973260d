/- The document's own requests of the binary dialect: a request with a key and a value. Conditions: none. The document's own requests of the binary dialect: a request with a key and no value. Conditions: none. -/
import Derived.Test.YtegaljpllcgaaaaG34Joined
namespace Go.Proofs.Ytegaljpllcgaaaa
set_option linter.unusedVariables false
set_option linter.unusedSimpArgs false
open Go.RowKit

section
variable {w : World} {g off len cap x l k : Nat} {b : List UInt8} {c o : Int}
set_option maxRecDepth 100000 in
set_option maxHeartbeats 16000000 in
theorem bin_v (hB : Bu w (some ⟨g, off, none⟩) len cap b) (H : HeadN w g off len cap b c x l k o) (hs : statusN (ofN c) x k l = 0) (hv : (ofN c).val = true) (hk : (ofN c).key = true) : Calls Try.prog 12 #[.slice (some ⟨g, off, none⟩) len cap] w fun e w' => BinE (reqB c o b x k (l - x - k)) w e w' := by
  obtain ⟨n24, c0, c1, x0, x1, l0, l1, k0, k1, o0, o1, fit, hcap, b0, b1, b4, gl, gk, go_⟩ := H
  have F := fine_of k0 hs
  replace hs := hide hs
  have ff := F.fit
  have fk := F.keyl hk
  have nx : x ≤ 255 := by clear b0 b1 b4 gl gk go_ o0 o1 c0 c1; omega
  have nl : l ≤ 2048 := by clear b0 b1 b4 gl gk go_ o0 o1 c0 c1; omega
  have nf : 24 + l ≤ len := by clear b0 b1 b4 gl gk go_ o0 o1 c0 c1; omega
  have ns : x + k ≤ l := by clear b0 b1 b4 gl gk go_ o0 o1 c0 c1; omega
  have kn1 : 1 ≤ k ∧ k ≤ 250 ∧ ¬ k = 0 := by clear b0 b1 b4 gl gk go_ o0 o1 c0 c1; omega
  have q6 : (0 : Int) < (k : Int) := by clear b0 b1 b4 gl gk go_ o0 o1 c0 c1; omega
  obtain ⟨s1, s2, s3, s4, s5, sv1, e7, e8, e9, q0, q1, q1b, q4b, q2, q3, q5, d8, d12, d2, d4, d16, d24, m8, m2, m12, m16, e1, e2, e3, e6, d168⟩ := numQ n24 nx nl nf hcap ns
  have kl0 := len_keyQ (i := 24 + x) hB.n s2
  have vl0 := len_keyQ (i := 24 + x + k) hB.n s3
  have e4 : IntKind.u32.wrap o = o := u32_id o0 o1
  have e5 : IntKind.i64.wrap c = c := i64_id c0 (Int.lt_of_le_of_lt c1 (by decide))
  replace sv1 := hide sv1
  replace s1 := hide s1
  replace s2 := hide s2
  replace s3 := hide s3
  replace s4 := hide s4
  replace s5 := hide s5
  replace e9 := hide e9
  clear nx nl nf ns
  have HO := hide (fun W => of_any (w := W) c0 c1)
  have HS := hide (fun W => status_any (w := W) (r := ofN c) (x := (x : Int)) (k := (k : Int)) (l := (l : Int)) ⟨x0, x1, k0, k1, l0, l1⟩ (ext_bd c))
  rw [hs.out] at HS
  obtain ⟨ax, sx, bx⟩ := hB.sub (i := 24) (m := x) s1.out 24 (24 + (x : Int)) rfl rfl
  have p16 := hB.part 16 8 d168
  obtain ⟨ak, sk, bk⟩ := hB.sub (i := 24 + x) (m := k) s2.out (24 + (x : Int)) (24 + (x : Int) + (k : Int)) (by push_cast; rfl) (by push_cast; rfl)
  obtain ⟨av, sv, bv⟩ := hB.sub (i := 24 + x + k) (m := l - x - k) s3.out (24 + (x : Int) + (k : Int)) (24 + (l : Int)) (by push_cast; rfl) s4.out
  obtain ⟨r, hr⟩ : ∃ r, r = ofN c := ⟨_, rfl⟩
  obtain ⟨fl, exp, del, ini, mk, hcm⟩ := cmdB_form (ofN c) ((b.drop 24).take x)
  have HC : Hid (∀ W : World, w.grownBy W none → Calls Try.prog 25 #[.agg (r5C r), .slice ax x (cap - 24)] W fun e w' => e = .returned (.agg (cellQ r.op ⟨#[]⟩ none 0 0 fl exp 0 del ini mk)) ∧ W.grownBy w' none) := fun W hg => by
    have h := cmd_any (r := ofN c) (bx W (hB.on (below_gr hg))) (fine_ext c0 c1 F rfl)
    rw [hcm] at h
    rw [hr]
    exact h
  have HG := hide (fun (W : World) (hg : w.grownBy W none) => bget_any (p16.on (below_gr hg)) (by decide))
  obtain ⟨key, hkey⟩ : ∃ key : ByteArray, key = ⟨((b.drop (24 + x)).take k).toArray⟩ := ⟨_, rfl⟩
  have HK : Hid (∀ W : World, w.grownBy W none → (convert 22 9 (.slice ak k (cap - (24 + x)))).run Try.prog W = .ok (.string key) W) := fun W hg => by rw [hkey]; exact convQ (bk W (hB.on (below_gr hg)))
  have HV := hide (fun (W : World) (hg : w.grownBy W none) => bv W (hB.on (below_gr hg)))
  obtain ⟨val, hval⟩ : ∃ val, val = (b.drop (24 + x + k)).take (l - x - k) := ⟨_, rfl⟩
  rw [← hval] at HV
  obtain ⟨v, hvn⟩ : ∃ v, v = l - x - k := ⟨_, rfl⟩
  rw [← hvn] at HV sv s5 sv1
  have HVL : Hid (val.length = v) := by show _ = _; rw [hval, vl0, hvn]
  have HQ := hide (fun (W : World) => rkeyed_any key W)
  obtain ⟨kq, hkq⟩ : ∃ q, keyedN key.data.toList = q := ⟨_, rfl⟩
  rw [hkq] at HQ
  have hq : kq = true := by
    rw [← hkq, hkey]
    show (decide (1 ≤ ((b.drop (24 + x)).take k).length) && decide (((b.drop (24 + x)).take k).length ≤ 250)) = true
    rw [kl0, decide_eq_true kn1.1, decide_eq_true kn1.2.1]
    rfl
  rw [hq] at HQ
  have HA : Hid (reqB c o b x k (l - x - k) = ⟨⟨[⟨r.op, key, val, fl, exp, getB b 16 8, del, ini, mk, false⟩], ⟨2, ⟨#[]⟩, c, o, r.quiet, false, ⟨#[]⟩, [], [key], false⟩⟩, ⟨#[]⟩, 24 + (l : Int), 0, false, 0⟩) := by
    show _ = _
    unfold reqB cmdQ formQ
    rw [hcm, hr, hv, if_neg kn1.2.2, ← hkey, ← hval, ← hvn, s5.out]
    rfl
  rw [HA.out]
  obtain ⟨cas, hcas⟩ : ∃ cas, cas = getB b 16 8 := ⟨_, rfl⟩
  have HG2 : Hid (∀ W : World, w.grownBy W none → Calls Try.prog 22 #[.slice (some ⟨g, off + 16, none⟩) 8 (cap - 16)] W fun e w' => e = .returned (.int .u64 cas) ∧ w' = W) := fun W hg => by rw [hcas]; exact HG.out W hg
  rw [← hcas]
  obtain ⟨V, hV⟩ : ∃ V, V = w.alloc (.cells (stC noS none 0 none 0 none 0) 34) := ⟨_, rfl⟩
  obtain ⟨B, hBB⟩ : ∃ B, B = w.heap.size := ⟨_, rfl⟩
  have gV : w.grownBy V none := by rw [hV]; exact World.grownBy_alloc _ _ _
  have rV : V.heap[B]? = some (.cells (stC noS none 0 none 0 none 0) 34 (0, 0)) := by rw [hV, hBB]; exact World.alloc_heap_new w _
  have lV : B < V.heap.size := (Array.getElem?_eq_some_iff.1 rV).1
  have t0 := b0 V gV
  have t1 := b1 V gV
  have t4 := b4 V gV
  have G1 := hide (gl V gV)
  have G2 := hide (gk V gV)
  have G3 := hide (go_ V gV)
  have HBw : Hid (w.heap.size ≤ B) := Nat.le_of_eq hBB.symm
  simp only [stC, noS, noQ, noF, List.length_nil] at hV
  replace gV := hide gV
  replace rV := hide rV
  replace lV := hide lV
  have RKEY : Hid (r.key = true) := by show _ = _; rw [hr]; exact hk
  have RVAL : Hid (r.val = true) := by show _ = _; rw [hr]; exact hv
  rw [← hr] at HO HS
  clear b0 b1 b4 gl gk go_ n24 c0 c1 x0 x1 k0 k1 o0 o1 hs l1 F ff fk d168 kl0 vl0 kn1 fit hcap p16 bx bk bv hval hvn hq hkq hkey hcas hr hcm hk hv HG HA
  have N1 : Hid (w = w) := rfl
  go_enter Try.func12, Try.ntmps12
  go_upto_region 1 with fail
  rw [← hV, ← hBB]
  clear hV hBB
  go_upto_region 21 with (first
    | (go_at_call 22; have t := N1; clear t; refine G1.out.mono ?_; rintro e w2 ⟨rfl, rfl⟩; clear N1; have N2 : Hid (w = w) := rfl)
    | (go_at_call 22; have t := N2; clear t; refine G2.out.mono ?_; rintro e w2 ⟨rfl, rfl⟩; clear N2; have N3 : Hid (w = w) := rfl)
    | (go_at_call 22; have t := N3; clear t; refine G3.out.mono ?_; rintro e w2 ⟨rfl, rfl⟩; clear N3)
    | (go_at_call 16; refine (HO.out _).mono ?_; rintro e w3 ⟨rfl, g3⟩; obtain ⟨W3, hW3⟩ : ∃ W3, W3 = w3.alloc (.cells (r5C r) 47) := ⟨_, rfl⟩; obtain ⟨P, hP⟩ : ∃ P, P = w3.heap.size := ⟨_, rfl⟩; have r3 : W3.heap[P]? = some (.cells (r5C r) 47 (0, 0)) := by rw [hW3, hP]; exact World.alloc_heap_new w3 _
       have k3 : w2.grownBy W3 none := gr_trans g3 (by rw [hW3]; exact World.grownBy_alloc _ _ _)
       replace hW3 := hide hW3; replace hP := hide hP; replace r3 := hide r3; replace k3 := hide k3; clear g3 t0 t1 t4)
    | (refine wpList_store_row rfl 47 _ _ rfl w3.heap.size (r5C r) rfl rfl _ _ (World.alloc_heap_new w3 _) (r5_size _) rfl (r5_one _) ?_; rw [setRow_alloc, ← hW3.out, ← hP.out])
    | (refine wpList_load_row rfl 47 _ rfl P rfl _ _ _ _ r3.out Try.underlying47 rfl (r5_size _) ?_)
    | (go_at_call 23; refine (HS.out _).mono ?_; rintro e w4 ⟨rfl, g4⟩; replace g4 := hide g4))
  have GA : Hid (w.grownBy w4 none) := gr_trans gV.out (gr_trans k3.out g4.out)
  have RA : Hid (w4.heap[B]? = some (.cells stepNoQ 34 (0, 0))) := ((gr_trans k3.out g4.out).block B lV.out (by simp)).trans rV.out
  have PA : Hid (w4.heap[P]? = some (.cells (r5C r) 47 (0, 0))) := (g4.out.block P (Array.getElem?_eq_some_iff.1 r3.out).1 (by simp)).trans r3.out
  clear k3 g4 r3 gV lV rV hW3 hP
  refine join_two (F := fun K W => RS w W B P K r zeroCq) (G := ?G) ?tail ?heads
  case heads =>
    intro tail
    have mkR : ∀ (K : Nat) (W W8 : World) (u : w4.grownBy W8 none) (h : W8.heap[K]? = some (.cells zeroCq 39 (0, 0))) (lk : w4.heap.size ≤ K), RS w W8 B P K r zeroCq := fun K W W8 u h lk =>
      ⟨gr_trans GA.out u, (u.block B (ltQ RA.out) (by simp)).trans RA.out, (u.block P (ltQ PA.out) (by simp)).trans PA.out, h, HBw.out, Nat.le_trans GA.out.size lk, by have := ltQ RA.out; omega, by have := ltQ PA.out; omega⟩
    replace mkR := hide mkR
    refine region_htail (S := fun W' => w4.grownBy W' none) 7 (by kernel_rfl) (by simp) (by kernel_rfl) ?_
    simp only [List.take_succ_cons, List.take_zero, List.drop_succ_cons, List.drop_zero]
    have S0 : w4.grownBy w4.drew none := gr_drewB w4 1
    generalize w4.drew = w6 at *
    refine take_at 0 75 (v := .agg (r5C r)) rfl rfl (by kernel_rfl) (by kernel_rfl) (by kernel_rfl) (fun _ _ _ h => h) (Or.inl ⟨by rfl, fun W hW => run_load_rowB 47 _ rfl P rfl ((hW.block P (Array.getElem?_eq_some_iff.1 PA.out).1 (by simp)).trans PA.out) Try.underlying47 rfl (r5_size _)⟩) S0 ?_
    simp only [Act.put, List.setIfInBounds_toArray, List.set_cons_zero, List.set_cons_succ]
    refine take_at 1 76 (v := .slice (some ⟨g, off, none⟩) len cap) rfl rfl (by kernel_rfl) (by kernel_rfl) (by kernel_rfl) (fun _ _ _ h => h) (Or.inl ⟨by rfl, fun W hW => by go_simp⟩) S0 ?_
    simp only [Act.put, List.setIfInBounds_toArray, List.set_cons_zero, List.set_cons_succ]
    refine take_at 2 77 (v := .int .i64 (x : Int)) rfl rfl (by kernel_rfl) (by kernel_rfl) (by kernel_rfl) (fun _ _ _ h => h) (Or.inl ⟨by rfl, fun W hW => by go_simp⟩) S0 ?_
    simp only [Act.put, List.setIfInBounds_toArray, List.set_cons_zero, List.set_cons_succ]
    refine take_at 3 78 (v := .int .i64 (24 + (x : Int))) rfl rfl (by kernel_rfl) (by kernel_rfl) (by kernel_rfl) (fun _ _ _ h => h) (Or.inl ⟨by rfl, fun W hW => by go_simp; exact e9.out⟩) S0 ?_
    simp only [Act.put, List.setIfInBounds_toArray, List.set_cons_zero, List.set_cons_succ]
    refine take_at 4 79 (v := .slice ax x (cap - 24)) rfl rfl (by kernel_rfl) (by kernel_rfl) (by kernel_rfl) (fun _ _ _ h => h) (Or.inl ⟨by rfl, fun W hW => run_subB 22 _ _ _ rfl (sx W)⟩) S0 ?_
    simp only [Act.put, List.setIfInBounds_toArray, List.set_cons_zero, List.set_cons_succ]
    refine wpAnyH_all (rs := [5, 6]) (by kernel_rfl) (by simp) fun j hj => ?_
    simp only [List.mem_cons, List.not_mem_nil, or_false] at hj
    rcases hj with rfl | rfl
    · refine wpOp_plain rfl rfl ?_
      refine oper_call 80 rfl (by go_simp) (HC.out w6 (gr_trans GA.out S0)) ?_
      rintro e w7 ⟨rfl, g7⟩
      refine ⟨_, rfl, ?_⟩
      have S7 := gr_trans S0 g7
      refine ⟨S7, ?_⟩
      simp only [Act.put, List.setIfInBounds_toArray, List.set_cons_zero, List.set_cons_succ]
      refine one_at 6 (by kernel_rfl) rfl rfl ?_
      refine oper_value 11 (w' := w7.alloc (.cells zeroCq 39)) (v := .pointer (some ⟨w7.heap.size, 0, none⟩)) rfl (by unfold zeroCq; go_simp) ?_
      have g8 := World.grownBy_alloc w7 (.cells zeroCq 39) none
      refine ⟨gr_trans S7 g8, ?_⟩
      simp only [Act.put, List.setIfInBounds_toArray, List.set_cons_zero, List.set_cons_succ]
      obtain ⟨K, w8, eK, e8, N8, l8, G8⟩ := boxB w7 zeroCq 39 S7
      rw [eK, e8]
      refine wpAnyH_done (by kernel_rfl) ?_ _
      change wpList _ _ _ _ _ _
      exact tail K w8 (mkR.out K w8 w8 G8 N8 l8)
    · refine wpOp_plain rfl rfl ?_
      refine oper_value 11 (w' := w6.alloc (.cells zeroCq 39)) (v := .pointer (some ⟨w6.heap.size, 0, none⟩)) rfl (by unfold zeroCq; go_simp) ?_
      have g8 := World.grownBy_alloc w6 (.cells zeroCq 39) none
      refine ⟨gr_trans S0 g8, ?_⟩
      simp only [Act.put, List.setIfInBounds_toArray, List.set_cons_zero, List.set_cons_succ]
      obtain ⟨K, w7, eK, e8, N8, l8, G8⟩ := boxB w6 zeroCq 39 S0
      rw [eK, e8]
      refine one_at 5 (by kernel_rfl) rfl rfl ?_
      refine oper_call 80 rfl (by go_simp) (HC.out w7 (gr_trans GA.out G8)) ?_
      rintro e w8 ⟨rfl, g7⟩
      refine ⟨_, rfl, ?_⟩
      have S7 := gr_trans G8 g7
      refine ⟨S7, ?_⟩
      simp only [Act.put, List.setIfInBounds_toArray, List.set_cons_zero, List.set_cons_succ]
      refine wpAnyH_done (by kernel_rfl) ?_ _
      change wpList _ _ _ _ _ _
      exact tail K w8 (mkR.out K w8 w8 S7 ((g7.block K (ltQ N8) (by simp)).trans N8) l8)
  case tail =>
    intro K w8 R8
    clear GA RA PA HC HBw
    have nK := R8.k
    obtain ⟨w9, h9, R9⟩ := R8.row (cellQ r.op ⟨#[]⟩ none 0 0 fl exp 0 del ini mk)
    obtain ⟨E1, h1, R10, ⟨u1, i1⟩, f1⟩ := R9.put 5 (.int .u64 cas) (cellQ r.op ⟨#[]⟩ none 0 0 fl exp cas del ini mk) (by simp [cellQ]) (by simp [cellQ])
    obtain ⟨E2, h2, R11, ⟨u2, i2⟩, f2⟩ := R10.put 1 (.string key) (cellQ r.op key none 0 0 fl exp cas del ini mk) (by simp [cellQ]) (by simp [cellQ])
    have cv := HK.out E1 R10.gr
    have pv := R11.pc 3 (.bool r.val) rfl
    rw [RVAL.out] at pv
    have G9 := hide R9.gr
    replace R11 := hide R11
    replace h9 := hide h9
    clear R8 R9 R10
    refine wpList_store_row rfl 39 _ _ rfl K (cellQ r.op ⟨#[]⟩ none 0 0 fl exp 0 del ini mk) rfl rfl _ _ nK (cellQ_size _ _ _ _ _ _ _ _ _ _ _) rfl (cellQ_one _ _ _ _ _ _ _ _ _ _ _) ?_
    rw [h9.out]
    clear nK h9
    go_wp2_with (first
      | (go_at_call 22; refine (HG2.out _ G9.out).mono ?_; rintro e w2 ⟨rfl, rfl⟩; clear HG2)
      | (at_builtin; have t := HV; clear t; refine wpList_append_bs rfl _ _ rfl E2.heap.size _ 0 [] rfl (World.ownsRow_nil _ _ _ _) _ v _ val rfl HVL.out (HV.out E2 R11.out.gr).b (by have := sv1.out; omega) (Nat.le_refl _) ?_; intro v3 w3 o3_ g3_ _; rw [Nat.zero_add] at o3_; obtain ⟨a3, c3, rfl⟩ := own_shape o3_; have g3 : E2.grownBy w3 none := g3_; have VQ : Hid (ValAt E2.heap.size w3 a3 c3 val) := (by show ValAt _ _ _ _ _; unfold ValAt; rw [HVL.out]; exact o3_); obtain ⟨E3, h3, R3, ⟨u3, i3⟩, f3⟩ := (R11.out.up g3).put 2 (.slice a3 v c3) (cellQ r.op key a3 v c3 fl exp cas del ini mk) (by simp [cellQ]) (by simp [cellQ]); have o3 : ∀ k, k ≠ K → E3.heap[k]? = w3.heap[k]? := (fun k hk => (by rw [← h3]; exact heap_setCell_other _ _ _ _ hk)); have lK3 := ltQ R11.out.k; have lB3 := ltQ R11.out.b; have s3_ := g3.size; clear g3_ o3_ HV; have N7 : Hid (w = w) := rfl; obtain ⟨F, W12, eF, e12, nF, g12, lF⟩ := newQ E3 (fmC ⟨2, ⟨#[]⟩, c, o, r.quiet, false, ⟨#[]⟩, [], [], false⟩ none 0 none 0) 29; have qv := R3.pc 4 (.bool r.quiet) rfl; have R12 := R3.up g12; have fB : F ≠ B := (by have := ltQ R3.b; omega); have fP : F ≠ P := (by have := ltQ R3.p; omega); have fK : F ≠ K := (by have := ltQ R3.k; omega); have wF : w.heap.size ≤ F := (Nat.le_trans R3.gr.size lF); have lF12 := ltQ nF; have k12 := R12.kc 1 (.string key) rfl; obtain ⟨S, W13, eS, e13, nS, g13, lS⟩ := newQ W12 #[.string key] 9; have R13 := R12.up g13; have nF13 := (g13.block F lF12 (by simp)).trans nF; obtain ⟨E4, h4, R14, nF4, ⟨u4, i4⟩, f4, o4⟩ := R13.other 8 (.slice (some ⟨S, 0, none⟩) 1 1) (fs' := (fmC ⟨2, ⟨#[]⟩, c, o, r.quiet, false, ⟨#[]⟩, [], [key], false⟩ none 0 (some ⟨S, 0, none⟩) 1)) nF13 (by simp [fmC]) (by simp [fmC]) wF fB fP fK; have k14 := R14.kc 1 (.string key) rfl; have sS : E4.heap[S]? = some (.cells #[.string key] 9 (0, 0)) := (o4 S (by omega)).trans nS; have pk := R14.pc 2 (.bool r.key) rfl; rw [RKEY.out] at pk; have rK := R14.k; obtain ⟨D, W15, eD, e15, nD, g15, lD⟩ := newQ E4 (cellQ r.op key a3 v c3 fl exp cas del ini mk) 39; have R15 := R14.up g15; have nF15 := (g15.block F (ltQ nF4) (by simp)).trans nF4; have dB : D ≠ B := (by have := ltQ R14.b; omega); have sS15 := (g15.block S (ltQ sS) (by simp)).trans sS; have sB : S ≠ B := (by have := ltQ R12.b; omega); obtain ⟨W16, r16, g16, e16⟩ := rowB_in (stC (⟨⟨[⟨r.op, key, val, fl, exp, cas, del, ini, mk, false⟩], ⟨2, ⟨#[]⟩, c, o, r.quiet, false, ⟨#[]⟩, [], [key], false⟩⟩, ⟨#[]⟩, 24 + (l : Int), 0, false, 0⟩ : Sv) (some ⟨D, 0, none⟩) 1 none 0 (some ⟨S, 0, none⟩) 1) R15.b R15.wb R15.gr; have o16 : ∀ k, k ≠ B → W16.heap[k]? = W15.heap[k]? := (fun k hk => (by rw [← e16]; exact setRow_other W15 B k _ hk)); have V16 : Hid (Bu W16 a3 v c3 val) := (by have v1 : ValAt E2.heap.size E3 a3 c3 val := Bu.apart VQ.out lK3 o3; have v2 := own_upV (gr_trans g12 g13) v1; have v3 : ValAt E2.heap.size E4 a3 c3 val := apartHi v1 v2 lF o4; have v4 := own_upV g15 v3; have v5 : ValAt E2.heap.size W16 a3 c3 val := Bu.apart v4 lB3 o16; have := v5.bu; rwa [HVL.out] at this); clear VQ lK3; replace R15 := hide R15; replace nF15 := hide nF15; replace rK := hide rK; replace r16 := hide r16; replace g16 := hide g16; replace e16 := hide e16; replace nF := hide nF; replace eF := hide eF; replace e12 := hide e12; have N8 : Hid (w = w) := rfl)
      | (have t := N8; clear t; refine wpList_store_row rfl 29 _ _ rfl E3.heap.size (fmC ⟨2, ⟨#[]⟩, c, o, r.quiet, false, ⟨#[]⟩, [], [], false⟩ none 0 none 0) rfl rfl _ _ (World.alloc_heap_new E3 _) (fmQ_size _ _ _ _ _) rfl (fmQ_one _ _ _ _ _) ?_; rw [setRow_alloc, e12.out, eF.out])
      | (go_at_call 26; refine (HQ.out _).mono ?_; rintro e w7 ⟨rfl, hw7⟩; subst hw7)
      | (refine wpList_load_row rfl 39 _ rfl K rfl _ (cellQ r.op key a3 v c3 fl exp cas del ini mk) _ _ rK.out Try.underlying39 rfl (cellQ_size _ _ _ _ _ _ _ _ _ _ _) ?_; unfold cellQ at *)
      | (refine wpList_load_row rfl 29 _ rfl F rfl _ (#[.int .i64 2, .string ⟨#[]⟩, .int .i64 c, .int .u32 o, .bool r.quiet, .bool false, .string ⟨#[]⟩, .slice none 0 0, .slice (some ⟨S, 0, none⟩) 1 1, .bool false]) _ _ nF15.out Try.underlying29 rfl (fmQ_size ⟨2, ⟨#[]⟩, c, o, r.quiet, false, ⟨#[]⟩, [], [key], false⟩ none 0 (some ⟨S, 0, none⟩) 1) ?_)
      | (refine wpList_store_row rfl 34 _ _ rfl B (stC (⟨⟨[⟨r.op, key, val, fl, exp, cas, del, ini, mk, false⟩], ⟨2, ⟨#[]⟩, c, o, r.quiet, false, ⟨#[]⟩, [], [key], false⟩⟩, ⟨#[]⟩, 24 + (l : Int), 0, false, 0⟩ : Sv) (some ⟨D, 0, none⟩) 1 none 0 (some ⟨S, 0, none⟩) 1) rfl rfl _ _ R15.out.b (step_size _ _ _ _ _ _ _) rfl (step_one _ _ _ _ _ _ _) ?_; rw [e16.out]))
    have QQ : QAt W16 (⟨⟨[⟨r.op, key, val, fl, exp, cas, del, ini, mk, false⟩], ⟨2, ⟨#[]⟩, c, o, r.quiet, false, ⟨#[]⟩, [], [key], false⟩⟩, ⟨#[]⟩, 24 + (l : Int), 0, false, 0⟩ : Sv).req (some ⟨D, 0, none⟩) 1 none 0 (some ⟨S, 0, none⟩) 1 :=
      oneB (c := ⟨r.op, key, val, fl, exp, cas, del, ini, mk, false⟩) (va := a3) (vc := c3) (by have h := (o16 D dB).trans nD; unfold cmC; rw [show val.length = v from HVL.out]; exact h) (by show Bu W16 a3 val.length c3 val; rw [HVL.out]; exact V16.out) (Su.none_ W16) (suQ ((o16 S sB).trans sS15))
    exact binE_ret (g := B) rfl r16.out rfl QQ g16.out
end
end Go.Proofs.Ytegaljpllcgaaaa

namespace Go.Proofs.Ytegaljpllcgaaaa
set_option linter.unusedVariables false
set_option linter.unusedSimpArgs false
open Go.RowKit

section
variable {w : World} {g off len cap x l k : Nat} {b : List UInt8} {c o : Int}
set_option maxRecDepth 100000 in
set_option maxHeartbeats 16000000 in
theorem bin_k (hB : Bu w (some ⟨g, off, none⟩) len cap b) (H : HeadN w g off len cap b c x l k o) (hs : statusN (ofN c) x k l = 0) (hv : (ofN c).val = false) (hk : (ofN c).key = true) : Calls Try.prog 12 #[.slice (some ⟨g, off, none⟩) len cap] w fun e w' => BinE (reqB c o b x k (l - x - k)) w e w' := by
  obtain ⟨n24, c0, c1, x0, x1, l0, l1, k0, k1, o0, o1, fit, hcap, b0, b1, b4, gl, gk, go_⟩ := H
  have F := fine_of k0 hs
  replace hs := hide hs
  have ff := F.fit
  have fk := F.keyl hk
  have nx : x ≤ 255 := by clear b0 b1 b4 gl gk go_ o0 o1 c0 c1; omega
  have nl : l ≤ 2048 := by clear b0 b1 b4 gl gk go_ o0 o1 c0 c1; omega
  have nf : 24 + l ≤ len := by clear b0 b1 b4 gl gk go_ o0 o1 c0 c1; omega
  have ns : x + k ≤ l := by clear b0 b1 b4 gl gk go_ o0 o1 c0 c1; omega
  have kn1 : 1 ≤ k ∧ k ≤ 250 ∧ ¬ k = 0 := by clear b0 b1 b4 gl gk go_ o0 o1 c0 c1; omega
  have q6 : (0 : Int) < (k : Int) := by clear b0 b1 b4 gl gk go_ o0 o1 c0 c1; omega
  obtain ⟨s1, s2, s3, s4, s5, sv1, e7, e8, e9, q0, q1, q1b, q4b, q2, q3, q5, d8, d12, d2, d4, d16, d24, m8, m2, m12, m16, e1, e2, e3, e6, d168⟩ := numQ n24 nx nl nf hcap ns
  have kl0 := len_keyQ (i := 24 + x) hB.n s2
  have vl0 := len_keyQ (i := 24 + x + k) hB.n s3
  have e4 : IntKind.u32.wrap o = o := u32_id o0 o1
  have e5 : IntKind.i64.wrap c = c := i64_id c0 (Int.lt_of_le_of_lt c1 (by decide))
  replace sv1 := hide sv1
  replace s1 := hide s1
  replace s2 := hide s2
  replace s3 := hide s3
  replace s4 := hide s4
  replace s5 := hide s5
  replace e9 := hide e9
  clear nx nl nf ns
  have HO := hide (fun W => of_any (w := W) c0 c1)
  have HS := hide (fun W => status_any (w := W) (r := ofN c) (x := (x : Int)) (k := (k : Int)) (l := (l : Int)) ⟨x0, x1, k0, k1, l0, l1⟩ (ext_bd c))
  rw [hs.out] at HS
  obtain ⟨ax, sx, bx⟩ := hB.sub (i := 24) (m := x) s1.out 24 (24 + (x : Int)) rfl rfl
  have p16 := hB.part 16 8 d168
  obtain ⟨ak, sk, bk⟩ := hB.sub (i := 24 + x) (m := k) s2.out (24 + (x : Int)) (24 + (x : Int) + (k : Int)) (by push_cast; rfl) (by push_cast; rfl)
  obtain ⟨r, hr⟩ : ∃ r, r = ofN c := ⟨_, rfl⟩
  obtain ⟨fl, exp, del, ini, mk, hcm⟩ := cmdB_form (ofN c) ((b.drop 24).take x)
  have HC : Hid (∀ W : World, w.grownBy W none → Calls Try.prog 25 #[.agg (r5C r), .slice ax x (cap - 24)] W fun e w' => e = .returned (.agg (cellQ r.op ⟨#[]⟩ none 0 0 fl exp 0 del ini mk)) ∧ W.grownBy w' none) := fun W hg => by
    have h := cmd_any (r := ofN c) (bx W (hB.on (below_gr hg))) (fine_ext c0 c1 F rfl)
    rw [hcm] at h
    rw [hr]
    exact h
  have HG := hide (fun (W : World) (hg : w.grownBy W none) => bget_any (p16.on (below_gr hg)) (by decide))
  obtain ⟨key, hkey⟩ : ∃ key : ByteArray, key = ⟨((b.drop (24 + x)).take k).toArray⟩ := ⟨_, rfl⟩
  have HK : Hid (∀ W : World, w.grownBy W none → (convert 22 9 (.slice ak k (cap - (24 + x)))).run Try.prog W = .ok (.string key) W) := fun W hg => by rw [hkey]; exact convQ (bk W (hB.on (below_gr hg)))
  have HQ := hide (fun (W : World) => rkeyed_any key W)
  obtain ⟨kq, hkq⟩ : ∃ q, keyedN key.data.toList = q := ⟨_, rfl⟩
  rw [hkq] at HQ
  have hq : kq = true := by
    rw [← hkq, hkey]
    show (decide (1 ≤ ((b.drop (24 + x)).take k).length) && decide (((b.drop (24 + x)).take k).length ≤ 250)) = true
    rw [kl0, decide_eq_true kn1.1, decide_eq_true kn1.2.1]
    rfl
  rw [hq] at HQ
  have HA : Hid (reqB c o b x k (l - x - k) = ⟨⟨[⟨r.op, key, [], fl, exp, getB b 16 8, del, ini, mk, false⟩], ⟨2, ⟨#[]⟩, c, o, r.quiet, false, ⟨#[]⟩, [], [key], false⟩⟩, ⟨#[]⟩, 24 + (l : Int), 0, false, 0⟩) := by
    show _ = _
    unfold reqB cmdQ formQ
    rw [hcm, hr, hv, if_neg kn1.2.2, ← hkey, s5.out]
    rfl
  rw [HA.out]
  obtain ⟨cas, hcas⟩ : ∃ cas, cas = getB b 16 8 := ⟨_, rfl⟩
  have HG2 : Hid (∀ W : World, w.grownBy W none → Calls Try.prog 22 #[.slice (some ⟨g, off + 16, none⟩) 8 (cap - 16)] W fun e w' => e = .returned (.int .u64 cas) ∧ w' = W) := fun W hg => by rw [hcas]; exact HG.out W hg
  rw [← hcas]
  obtain ⟨V, hV⟩ : ∃ V, V = w.alloc (.cells (stC noS none 0 none 0 none 0) 34) := ⟨_, rfl⟩
  obtain ⟨B, hBB⟩ : ∃ B, B = w.heap.size := ⟨_, rfl⟩
  have gV : w.grownBy V none := by rw [hV]; exact World.grownBy_alloc _ _ _
  have rV : V.heap[B]? = some (.cells (stC noS none 0 none 0 none 0) 34 (0, 0)) := by rw [hV, hBB]; exact World.alloc_heap_new w _
  have lV : B < V.heap.size := (Array.getElem?_eq_some_iff.1 rV).1
  have t0 := b0 V gV
  have t1 := b1 V gV
  have t4 := b4 V gV
  have G1 := hide (gl V gV)
  have G2 := hide (gk V gV)
  have G3 := hide (go_ V gV)
  have HBw : Hid (w.heap.size ≤ B) := Nat.le_of_eq hBB.symm
  simp only [stC, noS, noQ, noF, List.length_nil] at hV
  replace gV := hide gV
  replace rV := hide rV
  replace lV := hide lV
  have RKEY : Hid (r.key = true) := by show _ = _; rw [hr]; exact hk
  have RVAL : Hid (r.val = false) := by show _ = _; rw [hr]; exact hv
  rw [← hr] at HO HS
  clear b0 b1 b4 gl gk go_ n24 c0 c1 x0 x1 k0 k1 o0 o1 hs l1 F ff fk d168 kl0 vl0 kn1 fit hcap p16 bx bk hq hkq hkey hcas hr hcm hk hv HG HA
  have N1 : Hid (w = w) := rfl
  go_enter Try.func12, Try.ntmps12
  go_upto_region 1 with fail
  rw [← hV, ← hBB]
  clear hV hBB
  go_upto_region 21 with (first
    | (go_at_call 22; have t := N1; clear t; refine G1.out.mono ?_; rintro e w2 ⟨rfl, rfl⟩; clear N1; have N2 : Hid (w = w) := rfl)
    | (go_at_call 22; have t := N2; clear t; refine G2.out.mono ?_; rintro e w2 ⟨rfl, rfl⟩; clear N2; have N3 : Hid (w = w) := rfl)
    | (go_at_call 22; have t := N3; clear t; refine G3.out.mono ?_; rintro e w2 ⟨rfl, rfl⟩; clear N3)
    | (go_at_call 16; refine (HO.out _).mono ?_; rintro e w3 ⟨rfl, g3⟩; obtain ⟨W3, hW3⟩ : ∃ W3, W3 = w3.alloc (.cells (r5C r) 47) := ⟨_, rfl⟩; obtain ⟨P, hP⟩ : ∃ P, P = w3.heap.size := ⟨_, rfl⟩; have r3 : W3.heap[P]? = some (.cells (r5C r) 47 (0, 0)) := by rw [hW3, hP]; exact World.alloc_heap_new w3 _
       have k3 : w2.grownBy W3 none := gr_trans g3 (by rw [hW3]; exact World.grownBy_alloc _ _ _)
       replace hW3 := hide hW3; replace hP := hide hP; replace r3 := hide r3; replace k3 := hide k3; clear g3 t0 t1 t4)
    | (refine wpList_store_row rfl 47 _ _ rfl w3.heap.size (r5C r) rfl rfl _ _ (World.alloc_heap_new w3 _) (r5_size _) rfl (r5_one _) ?_; rw [setRow_alloc, ← hW3.out, ← hP.out])
    | (refine wpList_load_row rfl 47 _ rfl P rfl _ _ _ _ r3.out Try.underlying47 rfl (r5_size _) ?_)
    | (go_at_call 23; refine (HS.out _).mono ?_; rintro e w4 ⟨rfl, g4⟩; replace g4 := hide g4))
  have GA : Hid (w.grownBy w4 none) := gr_trans gV.out (gr_trans k3.out g4.out)
  have RA : Hid (w4.heap[B]? = some (.cells stepNoQ 34 (0, 0))) := ((gr_trans k3.out g4.out).block B lV.out (by simp)).trans rV.out
  have PA : Hid (w4.heap[P]? = some (.cells (r5C r) 47 (0, 0))) := (g4.out.block P (Array.getElem?_eq_some_iff.1 r3.out).1 (by simp)).trans r3.out
  clear k3 g4 r3 gV lV rV hW3 hP
  refine join_two (F := fun K W => RS w W B P K r zeroCq) (G := ?G) ?tail ?heads
  case heads =>
    intro tail
    have mkR : ∀ (K : Nat) (W W8 : World) (u : w4.grownBy W8 none) (h : W8.heap[K]? = some (.cells zeroCq 39 (0, 0))) (lk : w4.heap.size ≤ K), RS w W8 B P K r zeroCq := fun K W W8 u h lk =>
      ⟨gr_trans GA.out u, (u.block B (ltQ RA.out) (by simp)).trans RA.out, (u.block P (ltQ PA.out) (by simp)).trans PA.out, h, HBw.out, Nat.le_trans GA.out.size lk, by have := ltQ RA.out; omega, by have := ltQ PA.out; omega⟩
    replace mkR := hide mkR
    refine region_htail (S := fun W' => w4.grownBy W' none) 7 (by kernel_rfl) (by simp) (by kernel_rfl) ?_
    simp only [List.take_succ_cons, List.take_zero, List.drop_succ_cons, List.drop_zero]
    have S0 : w4.grownBy w4.drew none := gr_drewB w4 1
    generalize w4.drew = w6 at *
    refine take_at 0 75 (v := .agg (r5C r)) rfl rfl (by kernel_rfl) (by kernel_rfl) (by kernel_rfl) (fun _ _ _ h => h) (Or.inl ⟨by rfl, fun W hW => run_load_rowB 47 _ rfl P rfl ((hW.block P (Array.getElem?_eq_some_iff.1 PA.out).1 (by simp)).trans PA.out) Try.underlying47 rfl (r5_size _)⟩) S0 ?_
    simp only [Act.put, List.setIfInBounds_toArray, List.set_cons_zero, List.set_cons_succ]
    refine take_at 1 76 (v := .slice (some ⟨g, off, none⟩) len cap) rfl rfl (by kernel_rfl) (by kernel_rfl) (by kernel_rfl) (fun _ _ _ h => h) (Or.inl ⟨by rfl, fun W hW => by go_simp⟩) S0 ?_
    simp only [Act.put, List.setIfInBounds_toArray, List.set_cons_zero, List.set_cons_succ]
    refine take_at 2 77 (v := .int .i64 (x : Int)) rfl rfl (by kernel_rfl) (by kernel_rfl) (by kernel_rfl) (fun _ _ _ h => h) (Or.inl ⟨by rfl, fun W hW => by go_simp⟩) S0 ?_
    simp only [Act.put, List.setIfInBounds_toArray, List.set_cons_zero, List.set_cons_succ]
    refine take_at 3 78 (v := .int .i64 (24 + (x : Int))) rfl rfl (by kernel_rfl) (by kernel_rfl) (by kernel_rfl) (fun _ _ _ h => h) (Or.inl ⟨by rfl, fun W hW => by go_simp; exact e9.out⟩) S0 ?_
    simp only [Act.put, List.setIfInBounds_toArray, List.set_cons_zero, List.set_cons_succ]
    refine take_at 4 79 (v := .slice ax x (cap - 24)) rfl rfl (by kernel_rfl) (by kernel_rfl) (by kernel_rfl) (fun _ _ _ h => h) (Or.inl ⟨by rfl, fun W hW => run_subB 22 _ _ _ rfl (sx W)⟩) S0 ?_
    simp only [Act.put, List.setIfInBounds_toArray, List.set_cons_zero, List.set_cons_succ]
    refine wpAnyH_all (rs := [5, 6]) (by kernel_rfl) (by simp) fun j hj => ?_
    simp only [List.mem_cons, List.not_mem_nil, or_false] at hj
    rcases hj with rfl | rfl
    · refine wpOp_plain rfl rfl ?_
      refine oper_call 80 rfl (by go_simp) (HC.out w6 (gr_trans GA.out S0)) ?_
      rintro e w7 ⟨rfl, g7⟩
      refine ⟨_, rfl, ?_⟩
      have S7 := gr_trans S0 g7
      refine ⟨S7, ?_⟩
      simp only [Act.put, List.setIfInBounds_toArray, List.set_cons_zero, List.set_cons_succ]
      refine one_at 6 (by kernel_rfl) rfl rfl ?_
      refine oper_value 11 (w' := w7.alloc (.cells zeroCq 39)) (v := .pointer (some ⟨w7.heap.size, 0, none⟩)) rfl (by unfold zeroCq; go_simp) ?_
      have g8 := World.grownBy_alloc w7 (.cells zeroCq 39) none
      refine ⟨gr_trans S7 g8, ?_⟩
      simp only [Act.put, List.setIfInBounds_toArray, List.set_cons_zero, List.set_cons_succ]
      obtain ⟨K, w8, eK, e8, N8, l8, G8⟩ := boxB w7 zeroCq 39 S7
      rw [eK, e8]
      refine wpAnyH_done (by kernel_rfl) ?_ _
      change wpList _ _ _ _ _ _
      exact tail K w8 (mkR.out K w8 w8 G8 N8 l8)
    · refine wpOp_plain rfl rfl ?_
      refine oper_value 11 (w' := w6.alloc (.cells zeroCq 39)) (v := .pointer (some ⟨w6.heap.size, 0, none⟩)) rfl (by unfold zeroCq; go_simp) ?_
      have g8 := World.grownBy_alloc w6 (.cells zeroCq 39) none
      refine ⟨gr_trans S0 g8, ?_⟩
      simp only [Act.put, List.setIfInBounds_toArray, List.set_cons_zero, List.set_cons_succ]
      obtain ⟨K, w7, eK, e8, N8, l8, G8⟩ := boxB w6 zeroCq 39 S0
      rw [eK, e8]
      refine one_at 5 (by kernel_rfl) rfl rfl ?_
      refine oper_call 80 rfl (by go_simp) (HC.out w7 (gr_trans GA.out G8)) ?_
      rintro e w8 ⟨rfl, g7⟩
      refine ⟨_, rfl, ?_⟩
      have S7 := gr_trans G8 g7
      refine ⟨S7, ?_⟩
      simp only [Act.put, List.setIfInBounds_toArray, List.set_cons_zero, List.set_cons_succ]
      refine wpAnyH_done (by kernel_rfl) ?_ _
      change wpList _ _ _ _ _ _
      exact tail K w8 (mkR.out K w8 w8 S7 ((g7.block K (ltQ N8) (by simp)).trans N8) l8)
  case tail =>
    intro K w8 R8
    clear GA RA PA HC HBw
    have nK := R8.k
    obtain ⟨w9, h9, R9⟩ := R8.row (cellQ r.op ⟨#[]⟩ none 0 0 fl exp 0 del ini mk)
    obtain ⟨E1, h1, R10, ⟨u1, i1⟩, f1⟩ := R9.put 5 (.int .u64 cas) (cellQ r.op ⟨#[]⟩ none 0 0 fl exp cas del ini mk) (by simp [cellQ]) (by simp [cellQ])
    obtain ⟨E2, h2, R11, ⟨u2, i2⟩, f2⟩ := R10.put 1 (.string key) (cellQ r.op key none 0 0 fl exp cas del ini mk) (by simp [cellQ]) (by simp [cellQ])
    have cv := HK.out E1 R10.gr
    have pv := R11.pc 3 (.bool r.val) rfl
    rw [RVAL.out] at pv
    have G9 := hide R9.gr
    replace R11 := hide R11
    replace h9 := hide h9
    clear R8 R9 R10
    refine wpList_store_row rfl 39 _ _ rfl K (cellQ r.op ⟨#[]⟩ none 0 0 fl exp 0 del ini mk) rfl rfl _ _ nK (cellQ_size _ _ _ _ _ _ _ _ _ _ _) rfl (cellQ_one _ _ _ _ _ _ _ _ _ _ _) ?_
    rw [h9.out]
    clear nK h9
    obtain ⟨F, W12, eF, e12, nF, g12, lF⟩ := newQ E2 (fmC ⟨2, ⟨#[]⟩, c, o, r.quiet, false, ⟨#[]⟩, [], [], false⟩ none 0 none 0) 29; have qv := R11.out.pc 4 (.bool r.quiet) rfl; have R12 := R11.out.up g12; have fB : F ≠ B := (by have := ltQ R11.out.b; omega); have fP : F ≠ P := (by have := ltQ R11.out.p; omega); have fK : F ≠ K := (by have := ltQ R11.out.k; omega); have wF : w.heap.size ≤ F := (Nat.le_trans R11.out.gr.size lF); have lF12 := ltQ nF; have k12 := R12.kc 1 (.string key) rfl; obtain ⟨S, W13, eS, e13, nS, g13, lS⟩ := newQ W12 #[.string key] 9; have R13 := R12.up g13; have nF13 := (g13.block F lF12 (by simp)).trans nF; obtain ⟨E4, h4, R14, nF4, ⟨u4, i4⟩, f4, o4⟩ := R13.other 8 (.slice (some ⟨S, 0, none⟩) 1 1) (fs' := (fmC ⟨2, ⟨#[]⟩, c, o, r.quiet, false, ⟨#[]⟩, [], [key], false⟩ none 0 (some ⟨S, 0, none⟩) 1)) nF13 (by simp [fmC]) (by simp [fmC]) wF fB fP fK; have k14 := R14.kc 1 (.string key) rfl; have sS : E4.heap[S]? = some (.cells #[.string key] 9 (0, 0)) := (o4 S (by omega)).trans nS; have pk := R14.pc 2 (.bool r.key) rfl; rw [RKEY.out] at pk; have rK := R14.k; obtain ⟨D, W15, eD, e15, nD, g15, lD⟩ := newQ E4 (cellQ r.op key none 0 0 fl exp cas del ini mk) 39; have R15 := R14.up g15; have nF15 := (g15.block F (ltQ nF4) (by simp)).trans nF4; have dB : D ≠ B := (by have := ltQ R14.b; omega); have sS15 := (g15.block S (ltQ sS) (by simp)).trans sS; have sB : S ≠ B := (by have := ltQ R12.b; omega); obtain ⟨W16, r16, g16, e16⟩ := rowB_in (stC (⟨⟨[⟨r.op, key, [], fl, exp, cas, del, ini, mk, false⟩], ⟨2, ⟨#[]⟩, c, o, r.quiet, false, ⟨#[]⟩, [], [key], false⟩⟩, ⟨#[]⟩, 24 + (l : Int), 0, false, 0⟩ : Sv) (some ⟨D, 0, none⟩) 1 none 0 (some ⟨S, 0, none⟩) 1) R15.b R15.wb R15.gr; have o16 : ∀ k, k ≠ B → W16.heap[k]? = W15.heap[k]? := (fun k hk => (by rw [← e16]; exact setRow_other W15 B k _ hk))
    replace R15 := hide R15; replace nF15 := hide nF15; replace rK := hide rK; replace r16 := hide r16; replace g16 := hide g16; replace e16 := hide e16; replace nF := hide nF; replace eF := hide eF; replace e12 := hide e12
    have N8 : Hid (w = w) := rfl
    go_wp2_with (first
      | (go_at_call 22; refine (HG2.out _ G9.out).mono ?_; rintro e w2 ⟨rfl, rfl⟩; clear HG2)
      | (have t := N8; clear t; refine wpList_store_row rfl 29 _ _ rfl E2.heap.size (fmC ⟨2, ⟨#[]⟩, c, o, r.quiet, false, ⟨#[]⟩, [], [], false⟩ none 0 none 0) rfl rfl _ _ (World.alloc_heap_new E2 _) (fmQ_size _ _ _ _ _) rfl (fmQ_one _ _ _ _ _) ?_; rw [setRow_alloc, e12.out, eF.out])
      | (go_at_call 26; refine (HQ.out _).mono ?_; rintro e w7 ⟨rfl, hw7⟩; subst hw7)
      | (refine wpList_load_row rfl 39 _ rfl K rfl _ (cellQ r.op key none 0 0 fl exp cas del ini mk) _ _ rK.out Try.underlying39 rfl (cellQ_size _ _ _ _ _ _ _ _ _ _ _) ?_; unfold cellQ at *)
      | (refine wpList_load_row rfl 29 _ rfl F rfl _ (#[.int .i64 2, .string ⟨#[]⟩, .int .i64 c, .int .u32 o, .bool r.quiet, .bool false, .string ⟨#[]⟩, .slice none 0 0, .slice (some ⟨S, 0, none⟩) 1 1, .bool false]) _ _ nF15.out Try.underlying29 rfl (fmQ_size ⟨2, ⟨#[]⟩, c, o, r.quiet, false, ⟨#[]⟩, [], [key], false⟩ none 0 (some ⟨S, 0, none⟩) 1) ?_)
      | (refine wpList_store_row rfl 34 _ _ rfl B (stC (⟨⟨[⟨r.op, key, [], fl, exp, cas, del, ini, mk, false⟩], ⟨2, ⟨#[]⟩, c, o, r.quiet, false, ⟨#[]⟩, [], [key], false⟩⟩, ⟨#[]⟩, 24 + (l : Int), 0, false, 0⟩ : Sv) (some ⟨D, 0, none⟩) 1 none 0 (some ⟨S, 0, none⟩) 1) rfl rfl _ _ R15.out.b (step_size _ _ _ _ _ _ _) rfl (step_one _ _ _ _ _ _ _) ?_; rw [e16.out]))
    have QQ : QAt W16 (⟨⟨[⟨r.op, key, [], fl, exp, cas, del, ini, mk, false⟩], ⟨2, ⟨#[]⟩, c, o, r.quiet, false, ⟨#[]⟩, [], [key], false⟩⟩, ⟨#[]⟩, 24 + (l : Int), 0, false, 0⟩ : Sv).req (some ⟨D, 0, none⟩) 1 none 0 (some ⟨S, 0, none⟩) 1 :=
      oneB (c := ⟨r.op, key, [], fl, exp, cas, del, ini, mk, false⟩) (va := none) (vc := 0) ((o16 D dB).trans nD) (bu_nilQ W16) (Su.none_ W16) (suQ ((o16 S sB).trans sS15))
    exact binE_ret (g := B) rfl r16.out rfl QQ g16.out
end
end Go.Proofs.Ytegaljpllcgaaaa
