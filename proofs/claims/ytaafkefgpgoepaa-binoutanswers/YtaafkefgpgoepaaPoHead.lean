/- The head of an answer of package binout. Conditions: parts of an answer's length. -/
import Derived.Test.YtaafkefgpgoepaaPoHead0
namespace Go.Proofs.Ytaafkefgpgoepaa
set_option linter.unusedVariables false
set_option linter.unusedSimpArgs false
open Go.RowKit Go.Shelf

set_option maxRecDepth 100000 in
theorem act48 (z : Nat → Value) : actOf 48 z = { tmps := #[z 0, z 1, z 2, z 3, z 4, z 5, z 6, z 7, z 8, z 9, z 10, z 11, z 12, z 13, z 14, z 15, z 16, z 17, z 18, z 19, z 20, z 21, z 22, z 23, z 24, z 25, z 26, z 27, z 28, z 29, z 30, z 31, z 32, z 33, z 34, z 35, z 36, z 37, z 38, z 39, z 40, z 41, z 42, z 43, z 44, z 45, z 46, z 47], defers := [] } := rfl
section
variable {w : World}
set_option maxRecDepth 100000 in
set_option maxHeartbeats 4000000 in
theorem phead_any {f : Fv} {ta ka : Option Addr} {tc kc : Nat} {s cas : Int} {xa kb va : Option Addr} {xn xc kn kd vn vc : Nat} (x1 : xn ≤ 255) (k1 : kn ≤ 1000) (v1 : vn ≤ 2000) (c0 : 0 ≤ cas) (c1 : cas < 18446744073709551616) (o0 : 0 ≤ f.opq) (o1 : f.opq < 4294967296) :
    Calls Try.prog 19 #[.agg (fmC f ta tc ka kc), .int .i64 s, .int .u64 cas, .agg (pt3 xa xn xc kb kn kd va vn vc)] w fun e w' => ∃ a c, e = .returned (.slice a 24 c) ∧ Bu w' a 24 c (headL f.code f.opq (codeN s) cas xn kn vn) ∧ w.grownBy w' none := by
  obtain ⟨A1, hA1⟩ : ∃ A1, w.alloc (.cells (fmC f ta tc ka kc) 26) = A1 := ⟨_, rfl⟩
  obtain ⟨q, hq⟩ : ∃ q, w.heap.size = q := ⟨_, rfl⟩
  obtain ⟨V, hV⟩ : ∃ V, A1.alloc (.cells (pt3 xa xn xc kb kn kd va vn vc) 38) = V := ⟨_, rfl⟩
  obtain ⟨B, hB⟩ : ∃ q, A1.heap.size = q := ⟨_, rfl⟩
  have g1 : w.grownBy A1 none := by rw [← hA1]; exact World.grownBy_alloc _ _ _
  have g2 : A1.grownBy V none := by rw [← hV]; exact World.grownBy_alloc _ _ _
  have r1 : A1.heap[q]? = some (.cells (fmC f ta tc ka kc) 26 (0, 0)) := by rw [← hA1, ← hq]; exact World.alloc_heap_new _ _
  have r2 : V.heap[B]? = some (.cells (pt3 xa xn xc kb kn kd va vn vc) 38 (0, 0)) := by rw [← hV, ← hB]; exact World.alloc_heap_new _ _
  have r3 : V.heap[q]? = some (.cells (fmC f ta tc ka kc) 26 (0, 0)) := (g2.block _ (Array.getElem?_eq_some_iff.1 r1).1 (by simp)).trans r1
  have R2 := hide r2
  have R3 := hide r3
  have GV := hide (gr_trans g1 g2)
  have e1 : Hid (wrap64 ((xn : Int) + (kn : Int)) = (xn : Int) + (kn : Int)) := w64_idH (by omega) (by omega)
  have e2 : Hid (wrap64 ((xn : Int) + (kn : Int) + (vn : Int)) = (xn : Int) + (kn : Int) + (vn : Int)) := w64_idH (by omega) (by omega)
  have e0 : Hid (wrap64 (xn : Int) = (xn : Int)) := w64_idH (by omega) (by omega)
  have HX := hide x1
  have HK := hide k1
  have HN := hide v1
  have HC : Hid (0 ≤ cas ∧ cas < 18446744073709551616) := ⟨c0, c1⟩
  have HO : Hid (0 ≤ f.opq ∧ f.opq < 4294967296) := ⟨o0, o1⟩
  have Q2 := hide (fun (u : World) (g : V.grownBy u none) => keep_cell g (cellE r3 2 (.int .i64 f.code) rfl))
  have Q3 := hide (fun (u : World) (g : V.grownBy u none) => keep_cell g (cellE r3 3 (.int .u32 f.opq) rfl))
  have P0 := hide (fun (u : World) (g : V.grownBy u none) => keep_cell g (cellE r2 0 (.slice xa xn xc) rfl))
  have P1 := hide (fun (u : World) (g : V.grownBy u none) => keep_cell g (cellE r2 1 (.slice kb kn kd) rfl))
  have cb := codeN_bd s
  have U16 : Hid (IntKind.u16.wrap (kn : Int) = (kn : Int)) := by show _ = _; simp only [IntKind.wrap, IntKind.signed, IntKind.bits, Bool.false_and, Bool.false_eq_true, if_false]; omega
  have U8 : Hid (IntKind.u8.wrap (xn : Int) = (xn : Int)) := by show _ = _; rw [u8_mod]; omega
  have U32 : Hid (IntKind.u32.wrap ((xn : Int) + (kn : Int) + (vn : Int)) = (xn : Int) + (kn : Int) + (vn : Int)) := u32_id (by omega) (by omega)
  have C1 := hide (fun u => (pput16 kn (by omega) u).mono fun e w' h => newU_is h)
  have C2 := hide (fun u => (pput16 (codeN s).toNat (by omega) u).mono fun e w' h => newU_is h)
  rw [Int.toNat_of_nonneg cb.1] at C2
  have C3 := hide (fun u => (pput32 (xn + kn + vn) (by omega) u).mono fun e w' h => newU_is h)
  rw [Int.natCast_add, Int.natCast_add] at C3
  have C4 := hide (fun u => (pput32 f.opq.toNat (by omega) u).mono fun e w' h => newU_is h)
  rw [Int.toNat_of_nonneg o0] at C4
  have C5 := hide (fun u => (pput64 cas.toNat u).mono fun e w' h => newU_is h)
  rw [Int.toNat_of_nonneg c0] at C5
  clear x1 k1 v1 c0 c1 o0 o1 g1 g2 r1 r2 r3 cb
  simp only [fmC, pt3] at hA1 hV ⊢
  go_enter Try.func19, Try.ntmps19
  go_upto_region 2 with fail
  clear hA1 hV hq hB
  go_wp2_with (refine wpList_load_row rfl 38 _ rfl B rfl _ _ _ _ R2.out Try.underlying38 rfl (pt3_size _ _ _ _ _ _ _ _ _) ?_)
  go_loop [9, 11, 13] (fun z _ i => i = .int .i64 0 ∧ z = .int .i64 0 ∨ i = .int .i64 1 ∧ z = .int .i64 (xn : Int) ∨ i = .int .i64 2 ∧ z = .int .i64 ((xn : Int) + (kn : Int)) ∨ i = .int .i64 3 ∧ z = .int .i64 ((xn : Int) + (kn : Int) + (vn : Int))) (fun _ _ i => 3 - (intOf i).toNat)
  case atStart => exact .inl ⟨rfl, rfl⟩
  case round =>
    rcases hrel with ⟨rfl, rfl⟩ | ⟨rfl, rfl⟩ | ⟨rfl, rfl⟩ | ⟨rfl, rfl⟩
    · simp only [pt3]
      go_wp2_with (refine wpList_index_pt rfl 0 (by decide) rfl rfl rfl ?_)
      go_round
      case rel => exact .inr (.inl ⟨by go_num, by simp only [e0.out]⟩)
      case measure => simp [intOf]
    · simp only [pt3]
      go_wp2_with (refine wpList_index_pt rfl 1 (by decide) rfl rfl rfl ?_)
      go_round
      case rel => exact .inr (.inr (.inl ⟨by go_num, by simp only [e1.out]⟩))
      case measure => simp [intOf]
    · simp only [pt3]
      go_wp2_with (refine wpList_index_pt rfl 2 (by decide) rfl rfl rfl ?_)
      go_round
      case rel => exact .inr (.inr (.inr ⟨by go_num, by simp only [e2.out]⟩))
      case measure => simp [intOf]
    · go_upto_region 7 with fail
      refine wp_region_inv (N := 48) (Sp := SpL [EqV (.pointer (some ⟨q, 2, none⟩)), EqV (.int .i64 f.code), EqV (.int .u8 (f.code % 256)), IsU 2 [129, UInt8.ofNat (f.code % 256).toNat], EqV (.pointer (some ⟨B, 1, none⟩)), EqV (.slice kb kn kd), EqV (.int .i64 (kn : Int)), EqV (.int .u16 (kn : Int)), IsU 2 (byL (be kn 2)), EqV (.pointer (some ⟨B, 0, none⟩)), EqV (.slice xa xn xc), EqV (.int .i64 (xn : Int)), EqV (.int .u8 (xn : Int)), IsU 2 [UInt8.ofNat xn, 0], EqV (.int .i64 s), EqV (.int .u16 (codeN s)), IsU 2 (byL (be (codeN s).toNat 2)), EqV (.int .i64 ((xn : Int) + (kn : Int) + (vn : Int))), EqV (.int .u32 ((xn : Int) + (kn : Int) + (vn : Int))), IsU 4 (byL (be (xn + kn + vn) 4)), EqV (.pointer (some ⟨q, 3, none⟩)), EqV (.int .u32 f.opq), IsU 4 (byL (be f.opq.toNat 4)), EqV (.int .u64 cas), IsU 8 (byL (be cas.toNat 8)), IsRs 7 (headR f.code f.opq (codeN s) cas xn kn vn), IsR 24 (headL f.code f.opq (codeN s) cas xn kn vn), IsR 24 (headL f.code f.opq (codeN s) cas xn kn vn)]) (by kernel_rfl) (by rfl) (by kernel_rfl) (spL_mono (mono_cons (mono_eq _) (mono_cons (mono_eq _) (mono_cons (mono_eq _) (mono_cons (mono_is _ _) (mono_cons (mono_eq _) (mono_cons (mono_eq _) (mono_cons (mono_eq _) (mono_cons (mono_eq _) (mono_cons (mono_is _ _) (mono_cons (mono_eq _) (mono_cons (mono_eq _) (mono_cons (mono_eq _) (mono_cons (mono_eq _) (mono_cons (mono_is _ _) (mono_cons (mono_eq _) (mono_cons (mono_eq _) (mono_cons (mono_is _ _) (mono_cons (mono_eq _) (mono_cons (mono_eq _) (mono_cons (mono_is _ _) (mono_cons (mono_eq _) (mono_cons (mono_eq _) (mono_cons (mono_is _ _) (mono_cons (mono_eq _) (mono_cons (mono_is _ _) (mono_cons (mono_rs _ _) (mono_cons (mono_r _ _) (mono_cons (mono_r _ _) (mono_nil)))))))))))))))))))))))))))))) ?_ ?_
      · refine ⟨?_, ?_, ?_, ?_, ?_, ?_, ?_, ?_, ?_, ?_, ?_, ?_, ?_, ?_, ?_, ?_, ?_, ?_, ?_, ?_, ?_, ?_, ?_, ?_, ?_, ?_, ?_, ?_, trivial⟩
        · intro z u hg hfix dep
          have e4 : z 4 = .pointer (some ⟨q, 0, none⟩) := hfix 4 (by kernel_rfl)
          refine .inl ⟨rfl, ?_⟩
          refine oper_value 21 rfl (v := .pointer (some ⟨q, 2, none⟩)) (w' := u) (by rw [act48]; go_simp) ⟨_, rfl, gr_refl _ _, spL_at rfl rfl⟩
        · intro z u hg hfix dep
          have d21 : (EqV (.pointer (some ⟨q, 2, none⟩))) (z 21) u := dep 0 (by kernel_rfl) _ rfl
          have q21 : z 21 = (.pointer (some ⟨q, 2, none⟩)) := d21
          refine .inl ⟨rfl, ?_⟩
          have c := Q2.out u hg
          refine oper_value 22 rfl (v := .int .i64 f.code) (w' := u) (by rw [act48]; go_simp) ⟨_, rfl, gr_refl _ _, spL_at rfl rfl⟩
        · intro z u hg hfix dep
          have d22 : (EqV (.int .i64 f.code)) (z 22) u := dep 1 (by kernel_rfl) _ rfl
          have q22 : z 22 = (.int .i64 f.code) := d22
          refine .inl ⟨rfl, ?_⟩
          have c := u8_mod f.code
          refine oper_value 23 rfl (v := .int .u8 (f.code % 256)) (w' := u) (by rw [act48]; go_simp) ⟨_, rfl, gr_refl _ _, spL_at rfl rfl⟩
        · intro z u hg hfix dep
          have d23 : (EqV (.int .u8 (f.code % 256))) (z 23) u := dep 2 (by kernel_rfl) _ rfl
          have q23 : z 23 = (.int .u8 (f.code % 256)) := d23
          refine .inl ⟨rfl, ?_⟩
          refine oper_value 24 rfl (v := .slice (some ⟨u.heap.size, 0, none⟩) 2 2) (w' := u.alloc (.cells #[.int .u8 129, .int .u8 (f.code % 256)] 5)) (by rw [act48]; go_simp) ⟨_, rfl, World.grownBy_alloc _ _ _, spL_at rfl ⟨_, rfl, ?_⟩⟩
          have h := two_row u 129 (UInt8.ofNat (f.code % 256).toNat)
          rw [u8_ofInt] at h
          exact h
        · intro z u hg hfix dep
          have e7 : z 7 = .pointer (some ⟨B, 0, none⟩) := hfix 7 (by kernel_rfl)
          refine .inl ⟨rfl, ?_⟩
          refine oper_value 25 rfl (v := .pointer (some ⟨B, 1, none⟩)) (w' := u) (by rw [act48]; go_simp) ⟨_, rfl, gr_refl _ _, spL_at rfl rfl⟩
        · intro z u hg hfix dep
          have d25 : (EqV (.pointer (some ⟨B, 1, none⟩))) (z 25) u := dep 4 (by kernel_rfl) _ rfl
          have q25 : z 25 = (.pointer (some ⟨B, 1, none⟩)) := d25
          refine .inl ⟨rfl, ?_⟩
          have c := P1.out u hg
          refine oper_value 26 rfl (v := .slice kb kn kd) (w' := u) (by rw [act48]; go_simp) ⟨_, rfl, gr_refl _ _, spL_at rfl rfl⟩
        · intro z u hg hfix dep
          have d26 : (EqV (.slice kb kn kd)) (z 26) u := dep 5 (by kernel_rfl) _ rfl
          have q26 : z 26 = (.slice kb kn kd) := d26
          refine .inl ⟨rfl, ?_⟩
          refine oper_value 27 rfl (v := .int .i64 (kn : Int)) (w' := u) (by rw [act48]; go_simp) ⟨_, rfl, gr_refl _ _, spL_at rfl rfl⟩
        · intro z u hg hfix dep
          have d27 : (EqV (.int .i64 (kn : Int))) (z 27) u := dep 6 (by kernel_rfl) _ rfl
          have q27 : z 27 = (.int .i64 (kn : Int)) := d27
          refine .inl ⟨rfl, ?_⟩
          have c := U16.out
          refine oper_value 28 rfl (v := .int .u16 (kn : Int)) (w' := u) (by rw [act48]; go_simp) ⟨_, rfl, gr_refl _ _, spL_at rfl rfl⟩
        · intro z u hg hfix dep
          have d28 : (EqV (.int .u16 (kn : Int))) (z 28) u := dep 7 (by kernel_rfl) _ rfl
          have q28 : z 28 = (.int .u16 (kn : Int)) := d28
          refine .inl ⟨rfl, ?_⟩
          refine oper_call 29 rfl (by rw [act48]; go_simp) (C1.out u) ?_
          rintro e w' h; obtain ⟨v, rfl, hg2, hi⟩ := h; exact ⟨v, rfl, v, rfl, hg2, spL_at rfl hi⟩
        · intro z u hg hfix dep
          have e7 : z 7 = .pointer (some ⟨B, 0, none⟩) := hfix 7 (by kernel_rfl)
          refine .inl ⟨rfl, ?_⟩
          refine oper_value 30 rfl (v := .pointer (some ⟨B, 0, none⟩)) (w' := u) (by rw [act48]; go_simp) ⟨_, rfl, gr_refl _ _, spL_at rfl rfl⟩
        · intro z u hg hfix dep
          have d30 : (EqV (.pointer (some ⟨B, 0, none⟩))) (z 30) u := dep 9 (by kernel_rfl) _ rfl
          have q30 : z 30 = (.pointer (some ⟨B, 0, none⟩)) := d30
          refine .inl ⟨rfl, ?_⟩
          have c := P0.out u hg
          refine oper_value 31 rfl (v := .slice xa xn xc) (w' := u) (by rw [act48]; go_simp) ⟨_, rfl, gr_refl _ _, spL_at rfl rfl⟩
        · intro z u hg hfix dep
          have d31 : (EqV (.slice xa xn xc)) (z 31) u := dep 10 (by kernel_rfl) _ rfl
          have q31 : z 31 = (.slice xa xn xc) := d31
          refine .inl ⟨rfl, ?_⟩
          refine oper_value 32 rfl (v := .int .i64 (xn : Int)) (w' := u) (by rw [act48]; go_simp) ⟨_, rfl, gr_refl _ _, spL_at rfl rfl⟩
        · intro z u hg hfix dep
          have d32 : (EqV (.int .i64 (xn : Int))) (z 32) u := dep 11 (by kernel_rfl) _ rfl
          have q32 : z 32 = (.int .i64 (xn : Int)) := d32
          refine .inl ⟨rfl, ?_⟩
          have c := U8.out
          refine oper_value 33 rfl (v := .int .u8 (xn : Int)) (w' := u) (by rw [act48]; go_simp) ⟨_, rfl, gr_refl _ _, spL_at rfl rfl⟩
        · intro z u hg hfix dep
          have d33 : (EqV (.int .u8 (xn : Int))) (z 33) u := dep 12 (by kernel_rfl) _ rfl
          have q33 : z 33 = (.int .u8 (xn : Int)) := d33
          refine .inl ⟨rfl, ?_⟩
          refine oper_value 34 rfl (v := .slice (some ⟨u.heap.size, 0, none⟩) 2 2) (w' := u.alloc (.cells #[.int .u8 (xn : Int), .int .u8 0] 5)) (by rw [act48]; go_simp) ⟨_, rfl, World.grownBy_alloc _ _ _, spL_at rfl ⟨_, rfl, ?_⟩⟩
          have h := two_row u (UInt8.ofNat xn) 0
          rw [u8_ofNat HX.out] at h
          exact h
        · intro z u hg hfix dep
          have e1 : z 1 = .int .i64 s := hfix 1 (by kernel_rfl)
          refine .inl ⟨rfl, ?_⟩
          refine oper_value 35 rfl (v := .int .i64 s) (w' := u) (by rw [act48]; go_simp) ⟨_, rfl, gr_refl _ _, spL_at rfl rfl⟩
        · intro z u hg hfix dep
          have d35 : (EqV (.int .i64 s)) (z 35) u := dep 14 (by kernel_rfl) _ rfl
          have q35 : z 35 = (.int .i64 s) := d35
          refine .inl ⟨rfl, ?_⟩
          refine oper_call 36 rfl (by rw [act48]; go_simp) (pcode_any s u) ?_
          rintro e w' ⟨rfl, rfl⟩; exact ⟨_, rfl, _, rfl, gr_refl _ _, spL_at rfl rfl⟩
        · intro z u hg hfix dep
          have d36 : (EqV (.int .u16 (codeN s))) (z 36) u := dep 15 (by kernel_rfl) _ rfl
          have q36 : z 36 = (.int .u16 (codeN s)) := d36
          refine .inl ⟨rfl, ?_⟩
          refine oper_call 37 rfl (by rw [act48]; go_simp) (C2.out u) ?_
          rintro e w' h; obtain ⟨v, rfl, hg2, hi⟩ := h; exact ⟨v, rfl, v, rfl, hg2, spL_at rfl hi⟩
        · intro z u hg hfix dep
          have e9 : z 9 = .int .i64 ((xn : Int) + (kn : Int) + (vn : Int)) := hfix 9 (by kernel_rfl)
          refine .inl ⟨rfl, ?_⟩
          refine oper_value 38 rfl (v := .int .i64 ((xn : Int) + (kn : Int) + (vn : Int))) (w' := u) (by rw [act48]; go_simp) ⟨_, rfl, gr_refl _ _, spL_at rfl rfl⟩
        · intro z u hg hfix dep
          have d38 : (EqV (.int .i64 ((xn : Int) + (kn : Int) + (vn : Int)))) (z 38) u := dep 17 (by kernel_rfl) _ rfl
          have q38 : z 38 = (.int .i64 ((xn : Int) + (kn : Int) + (vn : Int))) := d38
          refine .inl ⟨rfl, ?_⟩
          have c := U32.out
          refine oper_value 39 rfl (v := .int .u32 ((xn : Int) + (kn : Int) + (vn : Int))) (w' := u) (by rw [act48]; go_simp) ⟨_, rfl, gr_refl _ _, spL_at rfl rfl⟩
        · intro z u hg hfix dep
          have d39 : (EqV (.int .u32 ((xn : Int) + (kn : Int) + (vn : Int)))) (z 39) u := dep 18 (by kernel_rfl) _ rfl
          have q39 : z 39 = (.int .u32 ((xn : Int) + (kn : Int) + (vn : Int))) := d39
          refine .inl ⟨rfl, ?_⟩
          refine oper_call 40 rfl (by rw [act48]; go_simp) (C3.out u) ?_
          rintro e w' h; obtain ⟨v, rfl, hg2, hi⟩ := h; exact ⟨v, rfl, v, rfl, hg2, spL_at rfl hi⟩
        · intro z u hg hfix dep
          have e4 : z 4 = .pointer (some ⟨q, 0, none⟩) := hfix 4 (by kernel_rfl)
          refine .inl ⟨rfl, ?_⟩
          refine oper_value 41 rfl (v := .pointer (some ⟨q, 3, none⟩)) (w' := u) (by rw [act48]; go_simp) ⟨_, rfl, gr_refl _ _, spL_at rfl rfl⟩
        · intro z u hg hfix dep
          have d41 : (EqV (.pointer (some ⟨q, 3, none⟩))) (z 41) u := dep 20 (by kernel_rfl) _ rfl
          have q41 : z 41 = (.pointer (some ⟨q, 3, none⟩)) := d41
          refine .inl ⟨rfl, ?_⟩
          have c := Q3.out u hg
          refine oper_value 42 rfl (v := .int .u32 f.opq) (w' := u) (by rw [act48]; go_simp) ⟨_, rfl, gr_refl _ _, spL_at rfl rfl⟩
        · intro z u hg hfix dep
          have d42 : (EqV (.int .u32 f.opq)) (z 42) u := dep 21 (by kernel_rfl) _ rfl
          have q42 : z 42 = (.int .u32 f.opq) := d42
          refine .inl ⟨rfl, ?_⟩
          refine oper_call 43 rfl (by rw [act48]; go_simp) (C4.out u) ?_
          rintro e w' h; obtain ⟨v, rfl, hg2, hi⟩ := h; exact ⟨v, rfl, v, rfl, hg2, spL_at rfl hi⟩
        · intro z u hg hfix dep
          have e2 : z 2 = .int .u64 cas := hfix 2 (by kernel_rfl)
          refine .inl ⟨rfl, ?_⟩
          refine oper_value 44 rfl (v := .int .u64 cas) (w' := u) (by rw [act48]; go_simp) ⟨_, rfl, gr_refl _ _, spL_at rfl rfl⟩
        · intro z u hg hfix dep
          have d44 : (EqV (.int .u64 cas)) (z 44) u := dep 23 (by kernel_rfl) _ rfl
          have q44 : z 44 = (.int .u64 cas) := d44
          refine .inl ⟨rfl, ?_⟩
          refine oper_call 45 rfl (by rw [act48]; go_simp) (C5.out u) ?_
          rintro e w' h; obtain ⟨v, rfl, hg2, hi⟩ := h; exact ⟨v, rfl, v, rfl, hg2, spL_at rfl hi⟩
        · intro z u hg hfix dep
          have d24 : (IsU 2 [129, UInt8.ofNat (f.code % 256).toNat]) (z 24) u := dep 3 (by kernel_rfl) _ rfl
          have d29 : (IsU 2 (byL (be kn 2))) (z 29) u := dep 8 (by kernel_rfl) _ rfl
          have d34 : (IsU 2 [UInt8.ofNat xn, 0]) (z 34) u := dep 13 (by kernel_rfl) _ rfl
          have d37 : (IsU 2 (byL (be (codeN s).toNat 2))) (z 37) u := dep 16 (by kernel_rfl) _ rfl
          have d40 : (IsU 4 (byL (be (xn + kn + vn) 4))) (z 40) u := dep 19 (by kernel_rfl) _ rfl
          have d43 : (IsU 4 (byL (be f.opq.toNat 4))) (z 43) u := dep 22 (by kernel_rfl) _ rfl
          have d45 : (IsU 8 (byL (be cas.toNat 8))) (z 45) u := dep 24 (by kernel_rfl) _ rfl
          refine .inl ⟨rfl, ?_⟩
          obtain ⟨g24, h24, b24⟩ := d24
          obtain ⟨g29, h29, b29⟩ := d29
          obtain ⟨g34, h34, b34⟩ := d34
          obtain ⟨g37, h37, b37⟩ := d37
          obtain ⟨g40, h40, b40⟩ := d40
          obtain ⟨g43, h43, b43⟩ := d43
          obtain ⟨g45, h45, b45⟩ := d45
          refine oper_value 46 rfl (v := .slice (some ⟨u.heap.size, 0, none⟩) 7 7) (w' := u.alloc (.cells #[.slice (some ⟨g24, 0, none⟩) 2 2, .slice (some ⟨g29, 0, none⟩) 2 2, .slice (some ⟨g34, 0, none⟩) 2 2, .slice (some ⟨g37, 0, none⟩) 2 2, .slice (some ⟨g40, 0, none⟩) 4 4, .slice (some ⟨g43, 0, none⟩) 4 4, .slice (some ⟨g45, 0, none⟩) 8 8] 32)) (by rw [act48]; go_simp) ⟨_, rfl, World.grownBy_alloc _ _ _, spL_at rfl ⟨_, rfl, rws_of (World.alloc_heap_new _ _) fun i hi => ?_⟩⟩
          have gn : u.grownBy (u.alloc (.cells #[.slice (some ⟨g24, 0, none⟩) 2 2, .slice (some ⟨g29, 0, none⟩) 2 2, .slice (some ⟨g34, 0, none⟩) 2 2, .slice (some ⟨g37, 0, none⟩) 2 2, .slice (some ⟨g40, 0, none⟩) 4 4, .slice (some ⟨g43, 0, none⟩) 4 4, .slice (some ⟨g45, 0, none⟩) 8 8] 32)) none := World.grownBy_alloc _ _ _
          match i, hi with
          | 0, _ => exact ⟨_, _, _, rfl, b24.on (below_gr gn)⟩
          | 1, _ => exact ⟨_, _, _, rfl, b29.on (below_gr gn)⟩
          | 2, _ => exact ⟨_, _, _, rfl, b34.on (below_gr gn)⟩
          | 3, _ => exact ⟨_, _, _, rfl, b37.on (below_gr gn)⟩
          | 4, _ => exact ⟨_, _, _, rfl, b40.on (below_gr gn)⟩
          | 5, _ => exact ⟨_, _, _, rfl, b43.on (below_gr gn)⟩
          | 6, _ => exact ⟨_, _, _, rfl, b45.on (below_gr gn)⟩
        · intro z u hg hfix dep
          have d46 : (IsRs 7 (headR f.code f.opq (codeN s) cas xn kn vn)) (z 46) u := dep 25 (by kernel_rfl) _ rfl
          refine .inl ⟨rfl, ?_⟩
          obtain ⟨g46, h46, b46⟩ := d46
          refine oper_call 47 rfl (by rw [act48]; go_simp) (cat_r (n := 7) (m := 24) b46 rfl (by decide) (headL_len _ _ _ _ _ _ _) (by decide)) ?_
          rintro e w' h; obtain ⟨v, rfl, hg2, hi⟩ := h; exact ⟨v, rfl, v, rfl, hg2, spL_at rfl hi⟩
        · intro z u hg hfix dep
          have d47 : (IsR 24 (headL f.code f.opq (codeN s) cas xn kn vn)) (z 47) u := dep 26 (by kernel_rfl) _ rfl
          refine .inl ⟨rfl, ?_⟩
          obtain ⟨a, c, h47, b47⟩ := d47
          refine oper_value 8 rfl (v := .slice a 24 c) (w' := u) (by rw [act48]; go_simp) ⟨_, rfl, gr_refl _ _, spL_at rfl ⟨a, c, rfl, b47⟩⟩
      · intro z u hg hfix h
        have h8 : IsR 24 (headL f.code f.opq (codeN s) cas xn kn vn) (z 8) u := h 27 (by decide) _ rfl
        obtain ⟨a, c, h8, b8⟩ := h8
        rw [act48]
        go_wp2
        go_ret
        exact ⟨a, c, by first | rfl | exact congrArg Ending.returned h8, b8, gr_trans GV.out hg⟩
end
end Go.Proofs.Ytaafkefgpgoepaa
