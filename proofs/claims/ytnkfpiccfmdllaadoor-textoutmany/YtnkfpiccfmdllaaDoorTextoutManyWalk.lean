/- TextoutMany returns true for every request and all results, and writes nothing that was there. Conditions: the listed variables hold what the program's text lays. -/
import Derived.Test.YtnkfpiccfmdllaaDoorOutMany
namespace Go.Proofs.YtnkfpiccfmdllaaDoor
set_option linter.unusedVariables false
open Go.RowKit Go.Shelf

theorem next_of {k N : Nat} (h : k < N) (h40 : N ≤ 40) : wrap64 ((k : Int) + 1) = (k : Int) + 1 := by unfold wrap64; omega
theorem lt_of {k N : Nat} (h : k < N) : (k : Int) < (N : Int) := by omega
section
variable {W : World} {r : Qv} {xs : List Rv} {ca ta ka la : Option Addr} {cc tc kc lc : Nat}
set_option maxRecDepth 100000 in
set_option maxHeartbeats 4000000 in
theorem textoutMany_walk (W : World) (r : Qv) (ca : Option Addr) (cc : Nat) (ta : Option Addr) (tc : Nat) (ka : Option Addr) (kc : Nat) (hq : QAt W r ca cc ta tc ka kc) (la : Option Addr) (lc : Nat) (xs : List Rv) (hx : Ru W la xs.length lc xs) (hL : Laid W) :
    Calls Tryd.prog 5 #[.agg (rqC r ca cc ta tc ka kc), .slice la xs.length lc] W fun e W' => e = .returned (.bool true) ∧ Below W.heap.size W W' := by
  have B := QBox.new W r ca ta ka cc tc kc
  obtain ⟨V, hV⟩ : ∃ V, V = W.alloc (.cells (rqC r ca cc ta tc ka kc) 28) := ⟨_, rfl⟩
  obtain ⟨q, hqq⟩ : ∃ q, q = W.heap.size := ⟨_, rfl⟩
  rw [← hV, ← hqq] at B
  have HB := hide B
  obtain ⟨N, hN⟩ : ∃ N, N = r.cmds.length := ⟨_, rfl⟩
  have HR : Hid (rqC r ca cc ta tc ka kc = #[.slice ca N cc, .int .i64 r.form.dia, .string r.form.verb, .int .i64 r.form.code, .int .u32 r.form.opq, .bool r.form.quiet, .bool r.form.wcas, .string r.form.flags, .slice ta r.form.toks.length tc, .slice ka r.form.keys.length kc, .bool r.form.b64]) := by rw [hN]; exact rfl
  rw [HR.out] at hV
  rw [HR.out]
  replace hN := hide hN
  go_enter Tryd.func5, Tryd.ntmps5
  go_upto_region 1 with fail
  rw [← hV, ← hqq]
  clear hV hqq B
  go_upto_region 3 with (first
    | (go_at_call 7; refine (awake_any (hL.up HB.out.gr)).mono ?_; rintro e w2 ⟨rfl, g2⟩; have B2 := hide (HB.out.on g2); clear g2)
    | (refine wpList_load_row rfl 28 _ rfl q rfl _ _ _ _ B2.out.row Tryd.underlying28 rfl (req_size _ _ _ _ _ _ _) ?_)
    | (go_at_call 8; refine (few_any (hq.on (below_gr B2.out.gr)) (hx.on (below_gr B2.out.gr))).mono ?_; rintro e w3 ⟨ok, rfl, hok, g3⟩; have B3 := hide (B2.out.on g3); clear g3))
  cases ok with
  | false =>
    go_wp2
    go_ret
    exact ⟨rfl, below_gr B3.out.gr⟩
  | true =>
    have hf := hide (hok rfl)
    clear hok B2 HB
    have h40 : N ≤ 40 := by rw [hN.out]; exact hf.out.n
    have c0 : w3.cell? ⟨q, 0, none⟩ = some (.slice ca N cc) := by have := B3.out.cells.1; rwa [← hN.out] at this
    by_cases h2 : N < 2
    · have n0 : ((N : Int) < 2) := by omega
      clear h2
      go_wp2
      go_ret
      exact ⟨rfl, below_gr B3.out.gr⟩
    have n0 : ¬ ((N : Int) < 2) := by omega
    by_cases hM : xs.length = N
    · rw [hM]
      have nM : ((N : Int) == (N : Int)) = true := by simp
      go_wp2
      go_loopw [7] (fun i wr => ∃ k : Nat, k ≤ N ∧ i = .int .i64 k ∧ wr = w3 ∧ Hid (∀ j (h : j < r.cmds.length), j < k → (r.cmds[j]).op = 0)) (fun i _ => N - (intOf i).toNat)
      case atStart => exact ⟨0, Nat.zero_le _, rfl, (by first | rfl | trivial), hide (fun j _ h => by omega)⟩
      case round =>
        obtain ⟨k, hk, rfl, rfl, HO⟩ := hrel
        by_cases hlt : k < N
        · have hki := lt_of hlt
          have e1 := next_of hlt h40
          have hkl : k < r.cmds.length := by rw [← hN.out]; exact hlt
          obtain ⟨b, off, rfl, ka2, kc2, hr, _⟩ := (hq.cmds.on (below_gr B3.out.gr)).get hkl
          have hc := op_cell hr
          obtain ⟨o, ho⟩ : ∃ o, o = (r.cmds[k]).op := ⟨_, rfl⟩
          rw [← ho] at hc
          by_cases h0 : o = 0
          · have z0 : (o == 0) = true := by rw [h0]; rfl
            have HO2 : Hid (∀ j (h : j < r.cmds.length), j < k + 1 → (r.cmds[j]).op = 0) := fun j h hj => by
              by_cases e : j = k
              · subst e; rw [← ho]; exact h0
              · exact HO.out j h (by omega)
            clear h0 hr ho
            go_wp2
            go_roundw
            case rel => exact ⟨k + 1, by omega, by go_num, (by first | rfl | trivial), HO2⟩
            case measure => simp [intOf]; omega
          · have z0 : (o == 0) = false := by rw [beq_eq_false_iff_ne]; exact h0
            clear h0 hr ho
            go_wp2
            go_ret
            exact ⟨rfl, below_gr B3.out.gr⟩
        · obtain rfl : k = N := by omega
          have hNN : Hid (k = r.cmds.length) := hN
          have hki := int_nltH k
          have HQ := hq.on (below_gr B3.out.gr)
          have HX := hx.on (below_gr B3.out.gr)
          have h2c : 2 ≤ r.cmds.length := by have := hNN.out; omega
          have hMc : xs.length = r.cmds.length := by have := hNN.out; omega
          obtain ⟨Y, hY1, hY3⟩ := many_pure r xs h2c hMc (fun j h => HO.out j h (by have := hNN.out; omega))
          obtain ⟨cb, co, rfl, j1⟩ := HQ.cmds.get (show 0 < r.cmds.length by omega)
          obtain ⟨lb, lo, rfl, j2⟩ := HX.get (show 0 < xs.length by omega)
          clear j1 j2
          obtain ⟨a2, ha2⟩ : ∃ a : Option Addr, a = some ⟨cb, co + 10, none⟩ := ⟨_, rfl⟩
          obtain ⟨la2, hla2⟩ : ∃ a : Option Addr, a = some ⟨lb, lo + 9, none⟩ := ⟨_, rfl⟩
          have hcc2 : ¬ cc = 1 := by have := HQ.cmds.c; omega
          have hk1 : (1 : Int) ≤ (k : Int) := by omega
          have hlc2 : ¬ lc = 1 := by have := HX.c; omega
          have hcc : (1 : Int) ≤ (cc : Int) := by have := HQ.cmds.c; omega
          have hlc : (1 : Int) ≤ (lc : Int) := by have := HX.c; omega
          have e1 : (oneQ r).cmds.length = 1 := by show (r.cmds.take 1).length = 1; rw [List.length_take]; omega
          have e2 : (restQ r).cmds.length = k - 1 := by show (r.cmds.drop 1).length = k - 1; rw [List.length_drop]; have := hNN.out; omega
          have e3 : (xs.take 1).length = 1 := by rw [List.length_take]; omega
          have e4 : (xs.drop 1).length = k - 1 := by rw [List.length_drop]; omega
          have HE1 : Hid (∀ W', wr.grownBy W' none → Calls Tryd.prog 9 #[.agg (rqF r.form 1 (some ⟨cb, co, none⟩) cc ta tc ka kc), .slice (some ⟨lb, lo, none⟩) 1 lc] W' fun e w' => Ans W' (encL (oneQ r) (xs.take 1)) e w') := fun W' hg => by
            have HQ' := HQ.on (below_gr hg)
            have h := encode_any (hL.up (gr_trans B3.out.gr hg)) (r := oneQ r) (xs := xs.take 1) (cc := cc) (ta := ta) (tc := tc) (ka := ka) (kc := kc) (lc := lc) ⟨by have := HQ'.cmds.front (j := 1) (by omega); rw [e1]; exact this, HQ'.toks, HQ'.keys⟩ (by rw [e3]; exact (HX.on (below_gr hg)).front (j := 1) (by omega)) hf.out.one
            rw [rqF_of (oneQ r) e1, e3] at h
            exact h
          have HE2 : Hid (∀ W', wr.grownBy W' none → Calls Tryd.prog 9 #[.agg (rqF r.form (k - 1) a2 (cc - 1) ta tc ka kc), .slice la2 (k - 1) (lc - 1)] W' fun e w' => Ans W' (encL (restQ r) (xs.drop 1)) e w') := fun W' hg => by
            have HQ' := HQ.on (below_gr hg)
            have h := encode_any (hL.up (gr_trans B3.out.gr hg)) (r := restQ r) (xs := xs.drop 1) (ca := a2) (cc := cc - 1) (ta := ta) (tc := tc) (ka := ka) (kc := kc) (la := la2) (lc := lc - 1) ⟨by have := HQ'.cmds.rest (by omega); rw [← ha2] at this; rw [e2]; rw [← hNN.out] at this; exact this, HQ'.toks, HQ'.keys⟩ (by have := (HX.on (below_gr hg)).rest (by omega); rw [← hla2] at this; rw [hM] at this; rw [e4]; exact this) hf.out.rest
            rw [rqF_of (restQ r) e2, e4] at h
            exact h
          have HE3 : Hid (∀ W', wr.grownBy W' none → Calls Tryd.prog 9 #[.agg (rqF r.form k (some ⟨cb, co, none⟩) cc ta tc ka kc), .slice (some ⟨lb, lo, none⟩) k lc] W' fun e w' => Ans W' (encL r xs) e w') := fun W' hg => by
            have h := encode_any (hL.up (gr_trans B3.out.gr hg)) (HQ.on (below_gr hg)) (HX.on (below_gr hg)) hf.out
            rw [rqF_of r hNN.out.symm, hM] at h
            exact h
          have R0 : Hid (wr.heap[q]? = some (.cells (rqF r.form k (some ⟨cb, co, none⟩) cc ta tc ka kc) 28 (0, 0))) := by have := B3.out.row; rw [rqF_of r hNN.out.symm] at this; exact this
          have L1 := encL_len hf.out.one (fun x hx' => HX.ok x (List.mem_of_mem_take hx'))
          have L2 := encL_len hf.out.rest (fun x hx' => HX.ok x (List.mem_of_mem_drop hx'))
          rw [hY3] at HE3
          generalize encL (restQ r) (xs.drop 1) = X2 at *
          generalize encL (oneQ r) (xs.take 1) = X1 at *
          replace hY1 := hide hY1
          obtain ⟨Z, hZ⟩ : ∃ Z, Z = Y ++ X2 := ⟨_, rfl⟩
          rw [← hZ] at HE3
          have HZ := hide hZ
          replace L1 := hide L1
          replace L2 := hide L2
          clear hZ
          have HG3 := hide B3.out.gr
          obtain ⟨p1, hp1⟩ : ∃ p, p = wr.heap.size := ⟨_, rfl⟩
          obtain ⟨W4, hW4⟩ : ∃ X, X = wr.alloc (.cells (rqF r.form k (some ⟨cb, co, none⟩) cc ta tc ka kc) 28) := ⟨_, rfl⟩
          obtain ⟨W5, hW5⟩ : ∃ X, X = wr.alloc (.cells (rqF r.form 1 (some ⟨cb, co, none⟩) cc ta tc ka kc) 28) := ⟨_, rfl⟩
          obtain ⟨p2, hp2⟩ : ∃ p, p = W5.heap.size := ⟨_, rfl⟩
          obtain ⟨W6, hW6⟩ : ∃ X, X = W5.alloc (.cells (rqF r.form k (some ⟨cb, co, none⟩) cc ta tc ka kc) 28) := ⟨_, rfl⟩
          obtain ⟨W7, hW7⟩ : ∃ X, X = W5.alloc (.cells (rqF r.form (k - 1) a2 (cc - 1) ta tc ka kc) 28) := ⟨_, rfl⟩
          have P1 : Hid (W4.setCell ⟨p1, 0, none⟩ (.slice (some ⟨cb, co, none⟩) 1 cc) = W5) := by rw [hp1, hW4, hW5]; exact copy_put _ _ _ _ _ _ _ _ _ _ _ _ _
          have P2 : Hid (W6.setCell ⟨p2, 0, none⟩ (.slice a2 (k - 1) (cc - 1)) = W7) := by rw [hp2, hW6, hW7]; exact copy_put _ _ _ _ _ _ _ _ _ _ _ _ _
          have R4 := rows3_new (A1 := rqF r.form 1 (some ⟨cb, co, none⟩) cc ta tc ka kc) (A2 := rqF r.form k (some ⟨cb, co, none⟩) cc ta tc ka kc) R0.out hW5 hW6 hp1 hp2
          have R7 := rows3_new R0.out hW5 hW7 hp1 hp2
          have y1 := copy_cells wr r.form k (some ⟨cb, co, none⟩) ta ka cc tc kc 28
          have y2 := copy_cells W5 r.form k (some ⟨cb, co, none⟩) ta ka cc tc kc 28
          rw [← hW4, ← hp1] at y1
          rw [← hW6, ← hp2] at y2
          obtain ⟨y1a, y1b⟩ := y1
          obtain ⟨y2a, y2b⟩ := y2
          have g4 : wr.grownBy W4 none := by rw [hW4]; exact World.grownBy_alloc _ _ _
          have g5 : wr.grownBy W5 none := by rw [hW5]; exact World.grownBy_alloc _ _ _
          have c4 := keep_cell g4 c0
          have c6 := keep_cell R4.gr c0
          have R5 : Hid (W5.heap[q]? = some (.cells (rqF r.form k (some ⟨cb, co, none⟩) cc ta tc ka kc) 28 (0, 0))) := (g5.block q (Array.getElem?_eq_some_iff.1 R0.out).1 (by simp)).trans R0.out
          have HR4 := hide R4
          have HR7 := hide R7
          have HW4 := hide hW4
          have HW6 := hide hW6
          have HP1 := hide hp1
          have HP2 := hide hp2
          subst ha2 hla2
          clear HQ HX hq hx hf HO hlt hk h2 hM h2c hMc e1 e2 e3 e4 R4 R7 g4 g5 hW4 hW5 hW6 hW7 hp1 hp2 B3 hY3 hN
          have N0 : Hid (wr = wr) := rfl
          go_upto_region 14 with (first
            | (have t := N0; clear t; refine wpList_load_row rfl 28 _ rfl q rfl _ _ _ _ R0.out Tryd.underlying28 rfl (rqF_size _ _ _ _ _ _ _ _) ?_)
            | (have t := N0; clear t; refine wpList_store_row rfl 28 _ _ rfl wr.heap.size (rqF r.form k (some ⟨cb, co, none⟩) cc ta tc ka kc) rfl rfl _ _ (World.alloc_heap_new wr _) (rqF_size _ _ _ _ _ _ _ _) rfl (rqF_one _ _ _ _ _ _ _ _) ?_; rw [setRow_alloc, ← HW4.out, ← HP1.out]; clear N0; have N1 : Hid (wr = wr) := rfl)
            | (have t := N1; clear t; rw [P1.out]; refine wpList_load_row rfl 28 _ rfl q rfl _ _ _ _ R5.out Tryd.underlying28 rfl (rqF_size _ _ _ _ _ _ _ _) ?_; clear y1a y1b c4)
            | (have t := N1; clear t; refine wpList_store_row rfl 28 _ _ rfl W5.heap.size (rqF r.form k (some ⟨cb, co, none⟩) cc ta tc ka kc) rfl rfl _ _ (World.alloc_heap_new W5 _) (rqF_size _ _ _ _ _ _ _ _) rfl (rqF_one _ _ _ _ _ _ _ _) ?_; rw [setRow_alloc, ← HW6.out, ← HP2.out]; clear N1; have N2 : Hid (wr = wr) := rfl))
          rw [P2.out]
          clear y2a y2b c6
          refine region_ctail (C := fun W' => W7.grownBy W' none) 3 (by kernel_rfl) (by simp) (by kernel_rfl) (gr_of_below (Below.drew (Below.refl _ _))) ?_
          simp only [List.take_succ_cons, List.take_zero, List.drop_succ_cons, List.drop_zero]
          refine class_put (a' := ?fra0) (.agg (rqF r.form 1 (some ⟨cb, co, none⟩) cc ta tc ka kc)) rfl (fun W hC => quiet_row 28 _ rfl p1 rfl (HR7.out.on hC).r1 Tryd.underlying28 rfl (rqF_size _ _ _ _ _ _ _ _)) (by simp only [Act.put, List.setIfInBounds_toArray, List.set_cons_zero, List.set_cons_succ]; rfl) ?nxa0
          refine class_put (a' := ?fra1) (.slice (some ⟨lb, lo, none⟩) k lc) rfl (fun W hC => by unfold Oper.quietAt; go_simp) (by simp only [Act.put, List.setIfInBounds_toArray, List.set_cons_zero, List.set_cons_succ]; rfl) ?nxa1
          refine class_put (a' := ?fra2) (.slice (some ⟨lb, lo, none⟩) 1 lc) rfl (fun W hC => by unfold Oper.quietAt; go_simp) (by simp only [Act.put, List.setIfInBounds_toArray, List.set_cons_zero, List.set_cons_succ]; rfl) ?nxa2
          refine wpQuiet_nil ?_
          intro W8 g8
          have HR8 := hide (HR7.out.on g8)
          have M0 : Hid (wr = wr) := rfl
          clear N2
          go_upto_region 15 with (go_at_call 9; have t := M0; clear t; refine Calls.mono (HE1.out _ HR8.out.gr) ?_; rintro e w9 h9; obtain ⟨a9, c9, rfl, b9, g9⟩ := h9.open; have hc9 := conv_bu b9; have HL9 := hide (Nat.le_trans b9.c b9.m); have HR9 := hide (HR8.out.on g9); clear b9 h9 g9 M0)
          clear hc9
          refine region_ctail (C := fun W' => w9.grownBy W' none) 3 (by kernel_rfl) (by simp) (by kernel_rfl) (gr_of_below (Below.drew (Below.refl _ _))) ?_
          simp only [List.take_succ_cons, List.take_zero, List.drop_succ_cons, List.drop_zero]
          refine class_put (a' := ?frb0) (.agg (rqF r.form (k - 1) (some ⟨cb, co + 10, none⟩) (cc - 1) ta tc ka kc)) rfl (fun W hC => quiet_row 28 _ rfl p2 rfl (HR9.out.on hC).r2 Tryd.underlying28 rfl (rqF_size _ _ _ _ _ _ _ _)) (by simp only [Act.put, List.setIfInBounds_toArray, List.set_cons_zero, List.set_cons_succ]; rfl) ?nxb0
          refine class_put (a' := ?frb1) (.slice (some ⟨lb, lo, none⟩) k lc) rfl (fun W hC => by unfold Oper.quietAt; go_simp) (by simp only [Act.put, List.setIfInBounds_toArray, List.set_cons_zero, List.set_cons_succ]; rfl) ?nxb1
          refine class_put (a' := ?frb2) (.slice (some ⟨lb, lo + 9, none⟩) (k - 1) (lc - 1)) rfl (fun W hC => by unfold Oper.quietAt; go_simp) (by simp only [Act.put, List.setIfInBounds_toArray, List.set_cons_zero, List.set_cons_succ]; rfl) ?nxb2
          refine wpQuiet_nil ?_
          intro W10 g10
          have HR10 := hide (HR9.out.on g10)
          have M1 : Hid (wr = wr) := rfl
          obtain ⟨m, f1, f2, f3, f4⟩ := cut_facts (Z := X2) hY1.out HL9.out
          rw [← HZ.out] at f4
          have f5 := sum_of (m := m) L1.out L2.out
          go_upto_region 17 with (go_at_call 9; have t := M1; clear t; refine Calls.mono (HE2.out _ HR10.out.gr) ?_; rintro e w11 h11; obtain ⟨a11, c11, rfl, b11, g11⟩ := h11.open; have hc11 := conv_bu b11; have HR11 := hide (HR10.out.on g11); clear b11 h11 g11 M1)
          have f0 : (0 : Int) ≤ (m : Int) := by omega
          clear hc11
          have HR12 := hide (HR11.out.on (gr_of_below (Below.drew (Below.refl _ w11))))
          refine wp_region_held (S := fun W' => w11.grownBy W' none) (by kernel_rfl) ?_
          have S0 : w11.grownBy w11.drew none := gr_of_below (Below.drew (Below.refl _ _))
          change wpAnyH _ _ _ _ _ 21 (Array.replicate 21 false) _ w11.drew
          generalize w11.drew = W12 at *
          refine take_at 0 75 (v := .int .i64 (m : Int)) rfl rfl (by kernel_rfl) (by kernel_rfl) (by kernel_rfl) (fun _ _ _ h => h) (Or.inl ⟨by rfl, fun W hW => by go_simp⟩) S0 ?_
          simp only [Act.put, List.setIfInBounds_toArray, List.set_cons_zero, List.set_cons_succ]
          refine take_at 1 76 (v := .bool true) rfl rfl (by kernel_rfl) (by kernel_rfl) (by kernel_rfl) (fun _ _ _ h => h) (Or.inl ⟨by rfl, fun W hW => by go_simp⟩) S0 ?_
          simp only [Act.put, List.setIfInBounds_toArray, List.set_cons_zero, List.set_cons_succ]
          refine take_at 2 77 (v := .bool true) rfl rfl (by kernel_rfl) (by kernel_rfl) (by kernel_rfl) (fun _ _ _ h => h) (Or.inl ⟨by rfl, fun W hW => by go_simp⟩) S0 ?_
          simp only [Act.put, List.setIfInBounds_toArray, List.set_cons_zero, List.set_cons_succ]
          refine take_at 3 78 (v := .string (mkS X1)) rfl rfl (by kernel_rfl) (by kernel_rfl) (by kernel_rfl) (fun _ _ _ h => h) (Or.inl ⟨by rfl, fun W hW => by go_simp⟩) S0 ?_
          simp only [Act.put, List.setIfInBounds_toArray, List.set_cons_zero, List.set_cons_succ]
          refine take_at 4 79 (v := .int .i64 (m : Int)) rfl rfl (by kernel_rfl) (by kernel_rfl) (by kernel_rfl) (fun _ _ _ h => h) (Or.inl ⟨by rfl, fun W hW => by go_simp⟩) S0 ?_
          simp only [Act.put, List.setIfInBounds_toArray, List.set_cons_zero, List.set_cons_succ]
          refine take_at 5 80 (v := .string ((mkS X1).extract m (mkS X1).size)) rfl rfl (by kernel_rfl) (by kernel_rfl) (by kernel_rfl) (fun _ _ _ h => h) (Or.inl ⟨by rfl, fun W hW => by go_simp⟩) S0 ?_
          simp only [Act.put, List.setIfInBounds_toArray, List.set_cons_zero, List.set_cons_succ]
          refine take_at 6 81 (v := .bool true) rfl rfl (by kernel_rfl) (by kernel_rfl) (by kernel_rfl) (fun _ _ _ h => h) (Or.inl ⟨by rfl, fun W hW => by go_simp⟩) S0 ?_
          simp only [Act.put, List.setIfInBounds_toArray, List.set_cons_zero, List.set_cons_succ]
          refine take_at 7 82 (v := .bool true) rfl rfl (by kernel_rfl) (by kernel_rfl) (by kernel_rfl) (fun _ _ _ h => h) (Or.inl ⟨by rfl, fun W hW => by go_simp⟩) S0 ?_
          simp only [Act.put, List.setIfInBounds_toArray, List.set_cons_zero, List.set_cons_succ]
          refine take_at 8 83 (v := .bool true) rfl rfl (by kernel_rfl) (by kernel_rfl) (by kernel_rfl) (fun _ _ _ h => h) (Or.inl ⟨by rfl, fun W hW => by go_simp⟩) S0 ?_
          simp only [Act.put, List.setIfInBounds_toArray, List.set_cons_zero, List.set_cons_succ]
          refine take_at 9 84 (v := .agg (rqF r.form k (some ⟨cb, co, none⟩) cc ta tc ka kc)) rfl rfl (by kernel_rfl) (by kernel_rfl) (by kernel_rfl) (fun _ _ _ h => h) (Or.inl ⟨by rfl, fun W hW => run_load_row 28 _ rfl q rfl (HR11.out.on hW).r0 Tryd.underlying28 rfl (rqF_size _ _ _ _ _ _ _ _)⟩) S0 ?_
          simp only [Act.put, List.setIfInBounds_toArray, List.set_cons_zero, List.set_cons_succ]
          refine take_at 10 85 (v := .slice (some ⟨lb, lo, none⟩) k lc) rfl rfl (by kernel_rfl) (by kernel_rfl) (by kernel_rfl) (fun _ _ _ h => h) (Or.inl ⟨by rfl, fun W hW => by go_simp⟩) S0 ?_
          simp only [Act.put, List.setIfInBounds_toArray, List.set_cons_zero, List.set_cons_succ]
          refine take_at 13 88 (v := .string (mkS X1)) rfl rfl (by kernel_rfl) (by kernel_rfl) (by kernel_rfl) (fun _ _ _ h => h) (Or.inl ⟨by rfl, fun W hW => by go_simp⟩) S0 ?_
          simp only [Act.put, List.setIfInBounds_toArray, List.set_cons_zero, List.set_cons_succ]
          refine take_at 14 89 (v := .int .i64 (m : Int)) rfl rfl (by kernel_rfl) (by kernel_rfl) (by kernel_rfl) (fun _ _ _ h => h) (Or.inl ⟨by rfl, fun W hW => by go_simp⟩) S0 ?_
          simp only [Act.put, List.setIfInBounds_toArray, List.set_cons_zero, List.set_cons_succ]
          refine take_at 15 90 (v := .string ((mkS X1).extract 0 m)) rfl rfl (by kernel_rfl) (by kernel_rfl) (by kernel_rfl) (fun _ _ _ h => h) (Or.inl ⟨by rfl, fun W hW => by go_simp⟩) S0 ?_
          simp only [Act.put, List.setIfInBounds_toArray, List.set_cons_zero, List.set_cons_succ]
          refine take_at 16 91 (v := .string (mkS X2)) rfl rfl (by kernel_rfl) (by kernel_rfl) (by kernel_rfl) (fun _ _ _ h => h) (Or.inl ⟨by rfl, fun W hW => by go_simp⟩) S0 ?_
          simp only [Act.put, List.setIfInBounds_toArray, List.set_cons_zero, List.set_cons_succ]
          refine take_at 17 92 (v := .string ((mkS X1).extract 0 m ++ mkS X2)) rfl rfl (by kernel_rfl) (by kernel_rfl) (by kernel_rfl) (fun _ _ _ h => h) (Or.inl ⟨by rfl, fun W hW => by go_simp⟩) S0 ?_
          simp only [Act.put, List.setIfInBounds_toArray, List.set_cons_zero, List.set_cons_succ]
          refine one_at_g 11 (by kernel_rfl) rfl (by rfl) ?_
          refine oper_call 86 rfl (by go_simp) (HE3.out _ HR12.out.gr) ?_
          rintro e w13 h13
          obtain ⟨a13, c13, rfl, b13, g13⟩ := h13.open
          refine ⟨_, rfl, gr_trans S0 g13, ?_⟩
          simp only [Act.put, List.setIfInBounds_toArray, List.set_cons_zero, List.set_cons_succ]
          have hc13 := conv_bu b13
          refine one_at_g 12 (by kernel_rfl) rfl (by rfl) ?_
          refine oper_value 87 rfl (v := .string (mkS Z)) (w' := w13) (by go_simp) ?_
          refine ⟨gr_trans S0 g13, ?_⟩
          simp only [Act.put, List.setIfInBounds_toArray, List.set_cons_zero, List.set_cons_succ]
          have S1 := gr_trans S0 g13
          refine take_at 18 93 (v := .bool true) rfl rfl (by kernel_rfl) (by kernel_rfl) (by kernel_rfl) (fun _ _ _ h => h) (Or.inl ⟨by rfl, fun W hW => by go_simp⟩) S1 ?_
          simp only [Act.put, List.setIfInBounds_toArray, List.set_cons_zero, List.set_cons_succ]
          refine take_at 19 94 (v := .bool true) rfl rfl (by kernel_rfl) (by kernel_rfl) (by kernel_rfl) (fun _ _ _ h => h) (Or.inl ⟨by rfl, fun W hW => by go_simp⟩) S1 ?_
          simp only [Act.put, List.setIfInBounds_toArray, List.set_cons_zero, List.set_cons_succ]
          refine take_at 20 4 (v := .bool true) rfl rfl (by kernel_rfl) (by kernel_rfl) (by kernel_rfl) (fun _ _ _ h => h) (Or.inl ⟨by rfl, fun W hW => by go_simp⟩) S1 ?_
          simp only [Act.put, List.setIfInBounds_toArray, List.set_cons_zero, List.set_cons_succ]
          refine wpAnyH_done (by kernel_rfl) ?_ _
          have GE := hide (gr_trans HG3.out (gr_trans HR12.out.gr g13))
          clear hc13 b13 h13 g13 S1 S0
          go_wp2
          go_ret
          exact ⟨rfl, below_gr GE.out⟩
    · have nM : ((xs.length : Int) == (N : Int)) = false := by rw [beq_eq_false_iff_ne]; omega
      clear hM h2
      go_wp2
      go_ret
      exact ⟨rfl, below_gr B3.out.gr⟩
end
end Go.Proofs.YtnkfpiccfmdllaaDoor
