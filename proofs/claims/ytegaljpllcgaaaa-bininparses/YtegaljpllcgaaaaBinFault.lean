/- The document's own reply to what is no request. Conditions: none. -/
import Derived.Test.YtegaljpllcgaaaaBinV
import Derived.Test.YtegaljpllcgaaaaG04Joined
import Derived.Test.YtegaljpllcgaaaaRefPut
import Derived.Deep.Cut
import Derived.Deep.OwnRows
import Derived.Laws.CopyRow
namespace Go.Proofs.Ytegaljpllcgaaaa
set_option linter.unusedVariables false
open Go.RowKit Go.Shelf

theorem make24 (w : World) : (Instr.makeSlice 22 (.int .i64 24) (.int .i64 24)).run Try.prog w = .ok (.slice (some ⟨w.heap.size, 0, none⟩) 24 24) (w.alloc (.cells #[.int .u8 0, .int .u8 0, .int .u8 0, .int .u8 0, .int .u8 0, .int .u8 0, .int .u8 0, .int .u8 0, .int .u8 0, .int .u8 0, .int .u8 0, .int .u8 0, .int .u8 0, .int .u8 0, .int .u8 0, .int .u8 0, .int .u8 0, .int .u8 0, .int .u8 0, .int .u8 0, .int .u8 0, .int .u8 0, .int .u8 0, .int .u8 0] 5)) :=
  by
  have h := run_make_row' (P := Try.prog) 22 5 (.int .u8 0) 1 Try.underlying22 (by kernel_rfl) rfl .i64 .i64 24 (by decide) (by decide) w
  rw [show madeCells #[Value.int .u8 0] 24 = #[.int .u8 0, .int .u8 0, .int .u8 0, .int .u8 0, .int .u8 0, .int .u8 0, .int .u8 0, .int .u8 0, .int .u8 0, .int .u8 0, .int .u8 0, .int .u8 0, .int .u8 0, .int .u8 0, .int .u8 0, .int .u8 0, .int .u8 0, .int .u8 0, .int .u8 0, .int .u8 0, .int .u8 0, .int .u8 0, .int .u8 0, .int .u8 0] from Array.toList_inj.1 (by rw [toList_madeCells_one]; rfl)] at h
  exact h
theorem fault_bs {w : World} {g : Nat} {t : TypeId} {c s o : Int} (h : w.heap[g]? = some (.cells ((faultZ c s o).map (Value.int .u8)).toArray t (0, 0))) : Bs w (some ⟨g, 0, none⟩) 24 24 (faultZ c s o) := by
  refine .inr ⟨g, 0, rfl, by decide, by decide, rfl, faultZ_byt c s o, fun i hi => ?_, (Array.getElem?_eq_some_iff.1 h).1⟩
  have hl : i < (faultZ c s o).length := hi
  unfold World.cell?
  rw [h]
  show ((faultZ c s o).map (Value.int .u8)).toArray[0 + i]? = _
  rw [Nat.zero_add, List.getElem?_toArray, List.getElem?_map, List.getElem?_eq_getElem hl]
  simp [List.getD, List.getElem?_eq_getElem hl]
theorem wpList_val {P : Program} {w w' : World} {ops : Array Oper} {rest : List Oper} {o : Oper} {a : Act} {Q : Exit → Act → World → Prop} (hg : o.guard = none) {v : Value} (hx : (execOp a.eval o).run P w = .ok (.value v) w') (h : wpList P ops Q rest (a.put o.dst v) w') : wpList P ops Q (o :: rest) a w :=
  wpList_plain hg fun K hK => by
    unfold Oper.wp
    rw [hx]
    exact hK _ _ h
set_option maxRecDepth 100000 in
set_option maxHeartbeats 4000000 in
theorem fault_any {w : World} {c s o : Int} (h0 : 0 ≤ o) (h1 : o < 4294967296) : Calls Try.prog 24 #[.int .i64 c, .int .i64 s, .int .u32 o] w fun e w' => e = .returned (.string (strOf (faultZ c s o))) ∧ w.grownBy w' none := by
  have M := make24
  have HP := hide (fun W => refPut_any o.toNat (by omega) 4 (by decide) W)
  have ho : ((o.toNat : Nat) : Int) = o := Int.toNat_of_nonneg h0
  rw [ho, be_four, ho] at HP
  have cw : IntKind.u64.wrap o = o := by rw [IntKind.wrap_u64]; omega
  obtain ⟨W1, hW1⟩ : ∃ W1, W1 = w.alloc (.cells #[.int .u8 129, .int .u8 (c % 256), .int .u8 0, .int .u8 0, .int .u8 0, .int .u8 0, .int .u8 (wrap64 (s.tdiv 256) % 256), .int .u8 (s % 256), .int .u8 0, .int .u8 0, .int .u8 0, .int .u8 0, .int .u8 0, .int .u8 0, .int .u8 0, .int .u8 0, .int .u8 0, .int .u8 0, .int .u8 0, .int .u8 0, .int .u8 0, .int .u8 0, .int .u8 0, .int .u8 0] 5) := ⟨_, rfl⟩
  obtain ⟨B, hB⟩ : ∃ B, B = w.heap.size := ⟨_, rfl⟩
  have b1 : W1.heap[B]? = some (.cells #[.int .u8 129, .int .u8 (c % 256), .int .u8 0, .int .u8 0, .int .u8 0, .int .u8 0, .int .u8 (wrap64 (s.tdiv 256) % 256), .int .u8 (s % 256), .int .u8 0, .int .u8 0, .int .u8 0, .int .u8 0, .int .u8 0, .int .u8 0, .int .u8 0, .int .u8 0, .int .u8 0, .int .u8 0, .int .u8 0, .int .u8 0, .int .u8 0, .int .u8 0, .int .u8 0, .int .u8 0] 5 (0, 0)) := by rw [hW1, hB]; exact World.alloc_heap_new w _
  have g1 : w.grownBy W1 none := by rw [hW1]; exact World.grownBy_alloc _ _ _
  have hBl : B < W1.heap.size := (Array.getElem?_eq_some_iff.1 b1).1
  have hBw : Hid (w.heap.size = B) := hB.symm
  replace g1 := hide g1
  replace b1 := hide b1
  replace hBl := hide hBl
  clear h0 h1 ho
  go_enter Try.func24, Try.ntmps24
  go_upto_region 6 with fail
  rw [← hW1, ← hB]
  clear hW1 hB M
  refine region_htail (S := fun W' => W1.grownBy W' none) 5 (by kernel_rfl) (by simp) (by kernel_rfl) ?_
  simp only [List.take_succ_cons, List.take_zero, List.drop_succ_cons, List.drop_zero]
  have S0 : W1.grownBy W1.drew none := gr_of_below (Below.drew (Below.refl _ _))
  generalize W1.drew = W2 at *
  refine take_at 0 24 (v := .slice (some ⟨B, 0, none⟩) 24 24) rfl rfl (by kernel_rfl) (by kernel_rfl) (by kernel_rfl) (fun _ _ _ h => h) (Or.inl ⟨by rfl, fun W hW => by go_simp⟩) S0 ?_
  simp only [Act.put, List.setIfInBounds_toArray, List.set_cons_zero, List.set_cons_succ]
  refine take_at 1 25 (v := .slice (some ⟨B, 12, none⟩) 4 12) rfl rfl (by kernel_rfl) (by kernel_rfl) (by kernel_rfl) (fun _ _ _ h => h) (Or.inl ⟨by rfl, fun W hW => by go_simp⟩) S0 ?_
  simp only [Act.put, List.setIfInBounds_toArray, List.set_cons_zero, List.set_cons_succ]
  refine take_at 2 26 (v := .int .u32 o) rfl rfl (by kernel_rfl) (by kernel_rfl) (by kernel_rfl) (fun _ _ _ h => h) (Or.inl ⟨by rfl, fun W hW => by go_simp⟩) S0 ?_
  simp only [Act.put, List.setIfInBounds_toArray, List.set_cons_zero, List.set_cons_succ]
  refine take_at 3 27 (v := .int .u64 o) rfl rfl (by kernel_rfl) (by kernel_rfl) (by kernel_rfl) (fun _ _ _ h => h) (Or.inl ⟨by rfl, fun W hW => by go_simp⟩) S0 ?_
  simp only [Act.put, List.setIfInBounds_toArray, List.set_cons_zero, List.set_cons_succ]
  refine one_at 4 (by kernel_rfl) rfl rfl ?_
  refine oper_call 28 rfl (by go_simp) (HP.out W2) ?_
  rintro e w3 ⟨rfl, o3, b3⟩
  have g3 := gr_of_below b3
  refine ⟨_, rfl, gr_trans S0 g3, ?_⟩
  simp only [Act.put, List.setIfInBounds_toArray, List.set_cons_zero, List.set_cons_succ]
  refine wpAnyH_done (by kernel_rfl) ?_ _
  change wpList _ _ _ _ _ _
  have b4 := ((gr_trans S0 g3).block B hBl.out (by simp)).trans b1.out
  have hr := run_copy_row (P := Try.prog) w3 22 22 3 5 B 12 4 12 ⟨W2.heap.size, 0, none⟩ 4 4 #[.int .u8 129, .int .u8 (c % 256), .int .u8 0, .int .u8 0, .int .u8 0, .int .u8 0, .int .u8 (wrap64 (s.tdiv 256) % 256), .int .u8 (s % 256), .int .u8 0, .int .u8 0, .int .u8 0, .int .u8 0, .int .u8 0, .int .u8 0, .int .u8 0, .int .u8 0, .int .u8 0, .int .u8 0, .int .u8 0, .int .u8 0, .int .u8 0, .int .u8 0, .int .u8 0, .int .u8 0] 5 ((opq4 o).map (Value.int .u8)) Try.underlying22 (by kernel_rfl) b4 rfl (fun j u hu => by
    have hj : j < 4 := (List.getElem?_eq_some_iff.1 hu).1
    rw [add_at, Nat.zero_add, o3.cellAt j hj]
    exact hu) (by show 12 + 4 ≤ 24; decide) (fun u hu => by
    obtain ⟨z, _, rfl⟩ := List.mem_map.1 hu
    rfl)
  obtain ⟨W4, hW4⟩ : ∃ W4, W4 = w3.setRow B ((#[.int .u8 129, .int .u8 (c % 256), .int .u8 0, .int .u8 0, .int .u8 0, .int .u8 0, .int .u8 (wrap64 (s.tdiv 256) % 256), .int .u8 (s % 256), .int .u8 0, .int .u8 0, .int .u8 0, .int .u8 0, .int .u8 0, .int .u8 0, .int .u8 0, .int .u8 0, .int .u8 0, .int .u8 0, .int .u8 0, .int .u8 0, .int .u8 0, .int .u8 0, .int .u8 0, .int .u8 0] : Array Value).toList.take 12 ++ (opq4 o).map (Value.int .u8) ++ (#[.int .u8 129, .int .u8 (c % 256), .int .u8 0, .int .u8 0, .int .u8 0, .int .u8 0, .int .u8 (wrap64 (s.tdiv 256) % 256), .int .u8 (s % 256), .int .u8 0, .int .u8 0, .int .u8 0, .int .u8 0, .int .u8 0, .int .u8 0, .int .u8 0, .int .u8 0, .int .u8 0, .int .u8 0, .int .u8 0, .int .u8 0, .int .u8 0, .int .u8 0, .int .u8 0, .int .u8 0] : Array Value).toList.drop (12 + ((opq4 o).map (Value.int .u8)).length)).toArray := ⟨_, rfl⟩
  rw [← hW4] at hr
  have b5 : W4.heap[B]? = some (.cells ((faultZ c s o).map (Value.int .u8)).toArray 5 (0, 0)) := by rw [hW4]; exact setRow_heap w3 B _ _ _ _ b4
  have hcv := conv_bs (fault_bs b5)
  have g4 : w3.grownBy W4 (some B) := by rw [hW4]; exact ⟨rfl, rfl, rfl, by simp, fun k _ hk => setRow_other w3 B k _ (fun e => hk (by rw [e]))⟩
  have GE := hide (gr_new (row := none) (gr_trans g1.out (gr_trans S0 g3)) g4 (Nat.le_of_eq hBw.out))
  refine wpList_val rfl (v := .int .i64 4) (w' := W4) (by go_simp; rfl) ?_
  clear hr hW4 b4 b5 g4 o3 b3 g3 S0
  go_wp2
  go_ret
  exact ⟨rfl, GE.out⟩
end Go.Proofs.Ytegaljpllcgaaaa
