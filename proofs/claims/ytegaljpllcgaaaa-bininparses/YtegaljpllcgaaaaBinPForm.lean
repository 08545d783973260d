/- Package binin's form of a request. Conditions: a code of a byte. -/
import Derived.Test.YtegaljpllcgaaaaBinPOp
import Derived.Test.YtegaljpllcgaaaaBinPHead
namespace Go.Proofs.Ytegaljpllcgaaaa
set_option linter.unusedVariables false
open Go.RowKit Go.Shelf

/-- How a request was said. -/
def formP (c o : Int) (key : ByteArray) : Fv := ⟨2, ⟨#[]⟩, c, o, (ofN c).quiet, false, ⟨#[]⟩, [], if key.data.toList.isEmpty then [] else [key], false⟩
theorem fm_size (f : Fv) (ta ka : Option Addr) (tc kc : Nat) : (Try.prog.info? 29).map (·.size) = some (fmC f ta tc ka kc).size := by
  have h : (Try.prog.info? 29).map (·.size) = some 10 := by kernel_rfl
  exact h
theorem fm_one (f : Fv) (ta ka : Option Addr) (tc kc : Nat) : (fmC f ta tc ka kc).all (·.oneCell') = true := by simp [fmC, Value.oneCell']
theorem run_load_rowP {P : Program} {o : Oper} {a : Act} {w : World} (ty : TypeId) (x : Operand) (ho : o.op = .load ty x) (g : Nat) (hx : a.eval x = .pointer (some ⟨g, 0, none⟩)) {t : TypeId} {cs : Array Value} {fr : Nat × Nat} {d : TypeDesc} (hg : w.heap[g]? = some (.cells cs t fr))
    (hu : P.underlying ty = some d) (hd : (match d with | .struct _ | .array _ _ => true | _ => false) = true) (hi : (P.info? ty).map (·.size) = some cs.size) : (execOp a.eval o).run P w = .ok (.value (.agg cs)) w := by
  unfold execOp
  simp only [ho, hx, Instr.loadAt, Instr.sureAddr, Sem.run_bind, Sem.run_pure, Result.andThen_ok, run_loadVar_row w g t ty cs fr d hg hu hd hi]
theorem gr_rowP {a b : World} {R : Nat} {cs : Array Value} (h : a.grownBy b none) (hR : a.heap.size ≤ R) : a.grownBy (b.setRow R cs) none :=
  ⟨h.os, h.tape, h.output, by rw [size_setRow]; exact h.size, fun k hk hn => (setRow_other b R k _ (by omega)).trans (h.block k hk hn)⟩
theorem gr_cellP {a b : World} {R j : Nat} {v : Value} (h : a.grownBy b none) (hR : a.heap.size ≤ R) : a.grownBy (b.setCell ⟨R, j, none⟩ v) none :=
  ⟨h.os, h.tape, h.output, by rw [World.size_setCell]; exact h.size, fun k hk hn => (heap_setCell_other _ _ _ _ (show k ≠ R by omega)).trans (h.block k hk hn)⟩
/-- A block of one's own made: its address, the world behind it. -/
theorem boxP1 (w : World) (cs : Array Value) (t : TypeId) : ∃ K w8, w.heap.size = K ∧ w.alloc (.cells cs t) = w8 ∧ w8.heap[K]? = some (.cells cs t (0, 0)) ∧ w.heap.size ≤ K ∧ w.grownBy w8 none :=
  ⟨_, _, rfl, rfl, World.alloc_heap_new _ _, Nat.le_refl _, World.grownBy_alloc _ _ none⟩
/-- The row of a block of one's own is written. -/
theorem rowP1 {w : World} {K : Nat} {old : Array Value} {t : TypeId} (cs : Array Value) (h : w.heap[K]? = some (.cells old t (0, 0))) : ∃ w9, w.setRow K cs = w9 ∧ w9.heap[K]? = some (.cells cs t (0, 0)) ∧ (∀ a : World, a.grownBy w none → a.heap.size ≤ K → a.grownBy w9 none) ∧ (∀ k, k ≠ K → w9.heap[k]? = w.heap[k]?) :=
  ⟨_, rfl, setRow_heap w K old cs _ _ h, fun a ha hK => gr_rowP ha hK, fun k hk => setRow_other w K k _ hk⟩
theorem keyRow {W : World} {p : Nat} {key : ByteArray} {t : TypeId} (h : W.heap[p]? = some (.cells #[.string key] t (0, 0))) : Su W (some ⟨p, 0, none⟩) 1 1 [key] := by
  refine ⟨rfl, Nat.le_refl _, by unfold maxLen; decide, .inr ⟨p, 0, rfl, (Array.getElem?_eq_some_iff.1 h).1, fun i x hi => ?_⟩⟩
  match i, hi with
  | 0, hi =>
    obtain rfl : key = x := by simpa using hi
    unfold World.cell?
    rw [h]
    rfl
theorem form_key {c o : Int} {key : ByteArray} (hk : key.data.toList.isEmpty = false) (p : Addr) : (fmC (formP c o ⟨#[]⟩) none 0 none 0).setIfInBounds 8 (.slice (some p) 1 1) = fmC (formP c o key) none 0 (some p) 1 := by
  have e : (formP c o key).keys = [key] := by unfold formP; exact if_neg (by rw [hk]; decide)
  unfold fmC
  rw [e]
  rfl
def FormE (f : Fv) (w : World) (e : Ending) (w' : World) : Prop := ∃ ka kc, e = .returned (.agg (fmC f none 0 ka kc)) ∧ Su w' ka f.keys.length kc f.keys ∧ (∀ b o, ka = some ⟨b, o, none⟩ → w.heap.size ≤ b) ∧ w.grownBy w' none
section
variable {w : World}
set_option maxRecDepth 100000 in
set_option maxHeartbeats 8000000 in
theorem form_nil {c k x o cas : Int} (c0 : 0 ≤ c) (c1 : c ≤ 255) (o0 : 0 ≤ o) (o1 : o < 4294967296) :
    Calls Try.prog 38 #[.agg (hdC c k x o cas), .string ⟨#[]⟩] w fun e w' => FormE (formP c o ⟨#[]⟩) w e w' := by
  have HQ := hide (fun (W : World) => quiet_any c W)
  have e1 : IntKind.i64.wrap c = c := i64_id c0 (by omega)
  obtain ⟨V0, hV0⟩ : ∃ V0, V0 = w.alloc (.cells (hdC c k x o cas) 54) := ⟨_, rfl⟩
  obtain ⟨B, hB⟩ : ∃ B, B = w.heap.size := ⟨_, rfl⟩
  have g0 : w.grownBy V0 none := by rw [hV0]; exact World.grownBy_alloc _ _ _
  have r0 : V0.heap[B]? = some (.cells (hdC c k x o cas) 54 (0, 0)) := by rw [hV0, hB]; exact World.alloc_heap_new w _
  obtain ⟨V, hV⟩ : ∃ V, V = V0.alloc (.cells (fmC noF none 0 none 0) 29) := ⟨_, rfl⟩
  obtain ⟨R, hR⟩ : ∃ R, R = V0.heap.size := ⟨_, rfl⟩
  have g1 : V0.grownBy V none := by rw [hV]; exact World.grownBy_alloc _ _ _
  have rR : V.heap[R]? = some (.cells (fmC noF none 0 none 0) 29 (0, 0)) := by rw [hV, hR]; exact World.alloc_heap_new V0 _
  have RV := hide (Array.getElem?_eq_some_iff.1 rR).1
  have wR : Hid (w.heap.size ≤ R) := by show _ ≤ _; rw [hR]; exact g0.size
  have rB : V.heap[B]? = some (.cells (hdC c k x o cas) 54 (0, 0)) := (g1.block B (Array.getElem?_eq_some_iff.1 r0).1 (by simp)).trans r0
  have gV := hide (gr_trans g0 g1)
  have bc := hide (fun (W : World) (hW : V.grownBy W none) => (fun j v (hv : (hdC c k x o cas)[j]? = some v) => (show W.cell? ⟨B, j, none⟩ = some v by
    have e := (hW.block B (Array.getElem?_eq_some_iff.1 rB).1 (by simp)).trans rB
    unfold World.cell?
    rw [e]
    exact hv)))
  have hBR : B + 1 = R := by rw [hR, hV0, World.size_alloc, hB]
  replace rR := hide rR
  clear r0 rB g0 g1 c0 c1 o0 o1
  simp only [hdC] at hV0 ⊢
  simp only [fmC, noF, List.length_nil] at hV
  obtain ⟨q, hq⟩ : ∃ q, (ofN c).quiet = q := ⟨_, rfl⟩
  rw [hq] at HQ
  replace hq := hide hq
  go_enter Try.func38, Try.ntmps38
  go_upto_region 1 with fail
  rw [← hV0, ← hV, ← hB, hBR]
  clear hV0 hB hR hV hBR
  refine region_htail (S := fun W' => V.grownBy W' none) 10 (by kernel_rfl) (by simp) (by kernel_rfl) ?_
  simp only [List.take_succ_cons, List.take_zero, List.drop_succ_cons, List.drop_zero]
  have S0 : V.grownBy V.drew none := gr_of_below (Below.drew (Below.refl _ _))
  generalize V.drew = W0 at *
  refine take_at 0 6 (v := .pointer (some ⟨B, 0, none⟩)) rfl rfl (by kernel_rfl) (by kernel_rfl) (by kernel_rfl) (fun _ _ _ h => h) (Or.inl ⟨by rfl, fun W hW => by go_simp⟩) S0 ?_
  simp only [Act.put, List.setIfInBounds_toArray, List.set_cons_zero, List.set_cons_succ]
  refine take_at 1 7 (v := .int .u8 c) rfl rfl (by kernel_rfl) (by kernel_rfl) (by kernel_rfl) (fun _ _ _ h => h) (Or.inl ⟨by rfl, fun W hW => by have cc := bc.out W hW 0 (.int .u8 c) rfl; go_simp⟩) S0 ?_
  simp only [Act.put, List.setIfInBounds_toArray, List.set_cons_zero, List.set_cons_succ]
  refine take_at 2 8 (v := .int .i64 c) rfl rfl (by kernel_rfl) (by kernel_rfl) (by kernel_rfl) (fun _ _ _ h => h) (Or.inl ⟨by rfl, fun W hW => by go_simp⟩) S0 ?_
  simp only [Act.put, List.setIfInBounds_toArray, List.set_cons_zero, List.set_cons_succ]
  refine take_at 3 9 (v := .pointer (some ⟨B, 3, none⟩)) rfl rfl (by kernel_rfl) (by kernel_rfl) (by kernel_rfl) (fun _ _ _ h => h) (Or.inl ⟨by rfl, fun W hW => by go_simp⟩) S0 ?_
  simp only [Act.put, List.setIfInBounds_toArray, List.set_cons_zero, List.set_cons_succ]
  refine take_at 4 10 (v := .int .u32 o) rfl rfl (by kernel_rfl) (by kernel_rfl) (by kernel_rfl) (fun _ _ _ h => h) (Or.inl ⟨by rfl, fun W hW => by have cc := bc.out W hW 3 (.int .u32 o) rfl; go_simp⟩) S0 ?_
  simp only [Act.put, List.setIfInBounds_toArray, List.set_cons_zero, List.set_cons_succ]
  refine take_at 5 11 (v := .pointer (some ⟨B, 0, none⟩)) rfl rfl (by kernel_rfl) (by kernel_rfl) (by kernel_rfl) (fun _ _ _ h => h) (Or.inl ⟨by rfl, fun W hW => by go_simp⟩) S0 ?_
  simp only [Act.put, List.setIfInBounds_toArray, List.set_cons_zero, List.set_cons_succ]
  refine take_at 6 12 (v := .int .u8 c) rfl rfl (by kernel_rfl) (by kernel_rfl) (by kernel_rfl) (fun _ _ _ h => h) (Or.inl ⟨by rfl, fun W hW => by have cc := bc.out W hW 0 (.int .u8 c) rfl; go_simp⟩) S0 ?_
  simp only [Act.put, List.setIfInBounds_toArray, List.set_cons_zero, List.set_cons_succ]
  clear bc
  refine wpAnyH_all (rs := [7, 9]) (by kernel_rfl) (by simp) fun j hj => ?_
  simp only [List.mem_cons, List.not_mem_nil, or_false] at hj
  rcases hj with rfl | rfl
  · refine wpOp_plain rfl rfl ?_
    refine oper_call 13 rfl (by go_simp) (HQ.out W0) ?_
    rintro e Wc ⟨rfl, rfl⟩
    refine ⟨_, rfl, ?_⟩
    refine ⟨S0, ?_⟩
    simp only [Act.put, List.setIfInBounds_toArray, List.set_cons_zero, List.set_cons_succ]
    refine take_at 8 14 (v := .agg #[.int .i64 2, .string ⟨#[]⟩, .int .i64 c, .int .u32 o, .bool q, .bool false, .string ⟨#[]⟩, .slice none 0 0, .slice none 0 0, .bool false]) rfl rfl (by kernel_rfl) (by kernel_rfl) (by kernel_rfl) (fun _ _ _ h => h) (Or.inl ⟨by rfl, fun W hW => by go_simp⟩) S0 ?_
    simp only [Act.put, List.setIfInBounds_toArray, List.set_cons_zero, List.set_cons_succ]
    refine one_at 9 (by kernel_rfl) rfl rfl ?_
    obtain ⟨F, W3, eF, e3, N3, LF, g3⟩ := boxP1 Wc (fmC noF none 0 none 0) 29
    refine oper_value 5 (w' := W3) (v := .pointer (some ⟨F, 0, none⟩)) rfl (by rw [← eF, ← e3]; simp only [fmC, noF, List.length_nil]; go_simp) ?_
    have S3 := gr_trans S0 g3
    replace LF := Nat.le_trans S0.size LF
    clear eF e3 g3
    refine ⟨S3, ?_⟩
    simp only [Act.put, List.setIfInBounds_toArray, List.set_cons_zero, List.set_cons_succ]
    have hfm : (#[.int .i64 2, .string ⟨#[]⟩, .int .i64 c, .int .u32 o, .bool q, .bool false, .string ⟨#[]⟩, .slice none 0 0, .slice none 0 0, .bool false] : Array Value) = fmC (formP c o ⟨#[]⟩) none 0 none 0 := by rw [← hq.out]; rfl
    rw [hfm]
    clear hfm
    refine wpAnyH_done (by kernel_rfl) ?_ _
    change wpList _ _ _ _ _ _
    obtain ⟨W4, e4, r4, q4, o4⟩ := rowP1 (fmC (formP c o ⟨#[]⟩) none 0 none 0) N3
    have S4 := q4 V S3 LF
    have wF : w.heap.size ≤ F := Nat.le_trans gV.out.size LF
    have hFR : R ≠ F := by have := RV.out; omega
    have rR4 := (S4.block R RV.out (by simp)).trans rR.out
    obtain ⟨W5, e5, r5, q5, o5⟩ := rowP1 (fmC (formP c o ⟨#[]⟩) none 0 none 0) rR4
    have GE := hide (q5 w (gr_trans gV.out S4) wR.out)
    replace r4 := hide r4
    replace r5 := hide r5
    replace rR4 := hide rR4
    replace e4 := hide e4
    replace e5 := hide e5
    replace N3 := hide N3
    clear q4 o4 q5 o5 S3 S4 LF wF hFR
    refine wpList_store_row rfl 29 _ _ rfl F (fmC (formP c o ⟨#[]⟩) none 0 none 0) rfl rfl _ _ N3.out (fm_size _ _ _ _ _) rfl (fm_one _ _ _ _ _) ?_
    rw [e4.out]
    go_wp2_with (first
      | (refine wpList_load_row rfl 29 _ rfl F rfl _ _ _ _ r4.out Try.underlying29 rfl (fm_size _ _ _ _ _) ?_)
      | (refine wpList_store_row rfl 29 _ _ rfl R (fmC (formP c o ⟨#[]⟩) none 0 none 0) rfl rfl _ _ rR4.out (fm_size _ _ _ _ _) rfl (fm_one _ _ _ _ _) ?_; rw [e5.out]))
    refine bodyPost_ret (results_cell_row rfl _ _ R 29 (fmC (formP c o ⟨#[]⟩) none 0 none 0) (0, 0) _ rfl r5.out Try.underlying29 rfl (fm_size _ _ _ _ _)) rfl ?_
    exact ⟨none, 0, rfl, Su.none_ _, (fun b o e => by cases e), GE.out⟩
  · refine wpOp_plain rfl rfl ?_
    obtain ⟨F, W3, eF, e3, N3, LF, g3⟩ := boxP1 W0 (fmC noF none 0 none 0) 29
    refine oper_value 5 (w' := W3) (v := .pointer (some ⟨F, 0, none⟩)) rfl (by rw [← eF, ← e3]; simp only [fmC, noF, List.length_nil]; go_simp) ?_
    have S3 := gr_trans S0 g3
    replace LF := Nat.le_trans S0.size LF
    clear eF e3 g3
    refine ⟨S3, ?_⟩
    simp only [Act.put, List.setIfInBounds_toArray, List.set_cons_zero, List.set_cons_succ]
    refine one_at 7 (by kernel_rfl) rfl rfl ?_
    refine oper_call 13 rfl (by go_simp) (HQ.out W3) ?_
    rintro e Wc ⟨rfl, hWc⟩
    subst hWc
    refine ⟨_, rfl, ?_⟩
    refine ⟨S3, ?_⟩
    simp only [Act.put, List.setIfInBounds_toArray, List.set_cons_zero, List.set_cons_succ]
    refine take_at 8 14 (v := .agg #[.int .i64 2, .string ⟨#[]⟩, .int .i64 c, .int .u32 o, .bool q, .bool false, .string ⟨#[]⟩, .slice none 0 0, .slice none 0 0, .bool false]) rfl rfl (by kernel_rfl) (by kernel_rfl) (by kernel_rfl) (fun _ _ _ h => h) (Or.inl ⟨by rfl, fun W hW => by go_simp⟩) S3 ?_
    simp only [Act.put, List.setIfInBounds_toArray, List.set_cons_zero, List.set_cons_succ]
    have hfm : (#[.int .i64 2, .string ⟨#[]⟩, .int .i64 c, .int .u32 o, .bool q, .bool false, .string ⟨#[]⟩, .slice none 0 0, .slice none 0 0, .bool false] : Array Value) = fmC (formP c o ⟨#[]⟩) none 0 none 0 := by rw [← hq.out]; rfl
    rw [hfm]
    clear hfm
    refine wpAnyH_done (by kernel_rfl) ?_ _
    change wpList _ _ _ _ _ _
    obtain ⟨W4, e4, r4, q4, o4⟩ := rowP1 (fmC (formP c o ⟨#[]⟩) none 0 none 0) N3
    have S4 := q4 V S3 LF
    have wF : w.heap.size ≤ F := Nat.le_trans gV.out.size LF
    have hFR : R ≠ F := by have := RV.out; omega
    have rR4 := (S4.block R RV.out (by simp)).trans rR.out
    obtain ⟨W5, e5, r5, q5, o5⟩ := rowP1 (fmC (formP c o ⟨#[]⟩) none 0 none 0) rR4
    have GE := hide (q5 w (gr_trans gV.out S4) wR.out)
    replace r4 := hide r4
    replace r5 := hide r5
    replace rR4 := hide rR4
    replace e4 := hide e4
    replace e5 := hide e5
    replace N3 := hide N3
    clear q4 o4 q5 o5 S3 S4 LF wF hFR
    refine wpList_store_row rfl 29 _ _ rfl F (fmC (formP c o ⟨#[]⟩) none 0 none 0) rfl rfl _ _ N3.out (fm_size _ _ _ _ _) rfl (fm_one _ _ _ _ _) ?_
    rw [e4.out]
    go_wp2_with (first
      | (refine wpList_load_row rfl 29 _ rfl F rfl _ _ _ _ r4.out Try.underlying29 rfl (fm_size _ _ _ _ _) ?_)
      | (refine wpList_store_row rfl 29 _ _ rfl R (fmC (formP c o ⟨#[]⟩) none 0 none 0) rfl rfl _ _ rR4.out (fm_size _ _ _ _ _) rfl (fm_one _ _ _ _ _) ?_; rw [e5.out]))
    refine bodyPost_ret (results_cell_row rfl _ _ R 29 (fmC (formP c o ⟨#[]⟩) none 0 none 0) (0, 0) _ rfl r5.out Try.underlying29 rfl (fm_size _ _ _ _ _)) rfl ?_
    exact ⟨none, 0, rfl, Su.none_ _, (fun b o e => by cases e), GE.out⟩
set_option maxRecDepth 100000 in
set_option maxHeartbeats 8000000 in
theorem form_cons {c k x o cas : Int} {key : ByteArray} (hk : key.data.toList.isEmpty = false) (hks : key.toList.isEmpty = false) (c0 : 0 ≤ c) (c1 : c ≤ 255) (o0 : 0 ≤ o) (o1 : o < 4294967296) :
    Calls Try.prog 38 #[.agg (hdC c k x o cas), .string key] w fun e w' => FormE (formP c o key) w e w' := by
  have HQ := hide (fun (W : World) => quiet_any c W)
  have e1 : IntKind.i64.wrap c = c := i64_id c0 (by omega)
  obtain ⟨V0, hV0⟩ : ∃ V0, V0 = w.alloc (.cells (hdC c k x o cas) 54) := ⟨_, rfl⟩
  obtain ⟨B, hB⟩ : ∃ B, B = w.heap.size := ⟨_, rfl⟩
  have g0 : w.grownBy V0 none := by rw [hV0]; exact World.grownBy_alloc _ _ _
  have r0 : V0.heap[B]? = some (.cells (hdC c k x o cas) 54 (0, 0)) := by rw [hV0, hB]; exact World.alloc_heap_new w _
  obtain ⟨V, hV⟩ : ∃ V, V = V0.alloc (.cells (fmC noF none 0 none 0) 29) := ⟨_, rfl⟩
  obtain ⟨R, hR⟩ : ∃ R, R = V0.heap.size := ⟨_, rfl⟩
  have g1 : V0.grownBy V none := by rw [hV]; exact World.grownBy_alloc _ _ _
  have rR : V.heap[R]? = some (.cells (fmC noF none 0 none 0) 29 (0, 0)) := by rw [hV, hR]; exact World.alloc_heap_new V0 _
  have RV := hide (Array.getElem?_eq_some_iff.1 rR).1
  have wR : Hid (w.heap.size ≤ R) := by show _ ≤ _; rw [hR]; exact g0.size
  have rB : V.heap[B]? = some (.cells (hdC c k x o cas) 54 (0, 0)) := (g1.block B (Array.getElem?_eq_some_iff.1 r0).1 (by simp)).trans r0
  have gV := hide (gr_trans g0 g1)
  have bc := hide (fun (W : World) (hW : V.grownBy W none) => (fun j v (hv : (hdC c k x o cas)[j]? = some v) => (show W.cell? ⟨B, j, none⟩ = some v by
    have e := (hW.block B (Array.getElem?_eq_some_iff.1 rB).1 (by simp)).trans rB
    unfold World.cell?
    rw [e]
    exact hv)))
  have hBR : B + 1 = R := by rw [hR, hV0, World.size_alloc, hB]
  replace rR := hide rR
  clear r0 rB g0 g1 c0 c1 o0 o1
  simp only [hdC] at hV0 ⊢
  simp only [fmC, noF, List.length_nil] at hV
  obtain ⟨q, hq⟩ : ∃ q, (ofN c).quiet = q := ⟨_, rfl⟩
  rw [hq] at HQ
  replace hq := hide hq
  go_enter Try.func38, Try.ntmps38
  go_upto_region 1 with fail
  rw [← hV0, ← hV, ← hB, hBR]
  clear hV0 hB hR hV hBR
  refine region_htail (S := fun W' => V.grownBy W' none) 10 (by kernel_rfl) (by simp) (by kernel_rfl) ?_
  simp only [List.take_succ_cons, List.take_zero, List.drop_succ_cons, List.drop_zero]
  have S0 : V.grownBy V.drew none := gr_of_below (Below.drew (Below.refl _ _))
  generalize V.drew = W0 at *
  refine take_at 0 6 (v := .pointer (some ⟨B, 0, none⟩)) rfl rfl (by kernel_rfl) (by kernel_rfl) (by kernel_rfl) (fun _ _ _ h => h) (Or.inl ⟨by rfl, fun W hW => by go_simp⟩) S0 ?_
  simp only [Act.put, List.setIfInBounds_toArray, List.set_cons_zero, List.set_cons_succ]
  refine take_at 1 7 (v := .int .u8 c) rfl rfl (by kernel_rfl) (by kernel_rfl) (by kernel_rfl) (fun _ _ _ h => h) (Or.inl ⟨by rfl, fun W hW => by have cc := bc.out W hW 0 (.int .u8 c) rfl; go_simp⟩) S0 ?_
  simp only [Act.put, List.setIfInBounds_toArray, List.set_cons_zero, List.set_cons_succ]
  refine take_at 2 8 (v := .int .i64 c) rfl rfl (by kernel_rfl) (by kernel_rfl) (by kernel_rfl) (fun _ _ _ h => h) (Or.inl ⟨by rfl, fun W hW => by go_simp⟩) S0 ?_
  simp only [Act.put, List.setIfInBounds_toArray, List.set_cons_zero, List.set_cons_succ]
  refine take_at 3 9 (v := .pointer (some ⟨B, 3, none⟩)) rfl rfl (by kernel_rfl) (by kernel_rfl) (by kernel_rfl) (fun _ _ _ h => h) (Or.inl ⟨by rfl, fun W hW => by go_simp⟩) S0 ?_
  simp only [Act.put, List.setIfInBounds_toArray, List.set_cons_zero, List.set_cons_succ]
  refine take_at 4 10 (v := .int .u32 o) rfl rfl (by kernel_rfl) (by kernel_rfl) (by kernel_rfl) (fun _ _ _ h => h) (Or.inl ⟨by rfl, fun W hW => by have cc := bc.out W hW 3 (.int .u32 o) rfl; go_simp⟩) S0 ?_
  simp only [Act.put, List.setIfInBounds_toArray, List.set_cons_zero, List.set_cons_succ]
  refine take_at 5 11 (v := .pointer (some ⟨B, 0, none⟩)) rfl rfl (by kernel_rfl) (by kernel_rfl) (by kernel_rfl) (fun _ _ _ h => h) (Or.inl ⟨by rfl, fun W hW => by go_simp⟩) S0 ?_
  simp only [Act.put, List.setIfInBounds_toArray, List.set_cons_zero, List.set_cons_succ]
  refine take_at 6 12 (v := .int .u8 c) rfl rfl (by kernel_rfl) (by kernel_rfl) (by kernel_rfl) (fun _ _ _ h => h) (Or.inl ⟨by rfl, fun W hW => by have cc := bc.out W hW 0 (.int .u8 c) rfl; go_simp⟩) S0 ?_
  simp only [Act.put, List.setIfInBounds_toArray, List.set_cons_zero, List.set_cons_succ]
  clear bc
  refine wpAnyH_all (rs := [7, 9]) (by kernel_rfl) (by simp) fun j hj => ?_
  simp only [List.mem_cons, List.not_mem_nil, or_false] at hj
  rcases hj with rfl | rfl
  · refine wpOp_plain rfl rfl ?_
    refine oper_call 13 rfl (by go_simp) (HQ.out W0) ?_
    rintro e Wc ⟨rfl, rfl⟩
    refine ⟨_, rfl, ?_⟩
    refine ⟨S0, ?_⟩
    simp only [Act.put, List.setIfInBounds_toArray, List.set_cons_zero, List.set_cons_succ]
    refine take_at 8 14 (v := .agg #[.int .i64 2, .string ⟨#[]⟩, .int .i64 c, .int .u32 o, .bool q, .bool false, .string ⟨#[]⟩, .slice none 0 0, .slice none 0 0, .bool false]) rfl rfl (by kernel_rfl) (by kernel_rfl) (by kernel_rfl) (fun _ _ _ h => h) (Or.inl ⟨by rfl, fun W hW => by go_simp⟩) S0 ?_
    simp only [Act.put, List.setIfInBounds_toArray, List.set_cons_zero, List.set_cons_succ]
    refine one_at 9 (by kernel_rfl) rfl rfl ?_
    obtain ⟨F, W3, eF, e3, N3, LF, g3⟩ := boxP1 Wc (fmC noF none 0 none 0) 29
    refine oper_value 5 (w' := W3) (v := .pointer (some ⟨F, 0, none⟩)) rfl (by rw [← eF, ← e3]; simp only [fmC, noF, List.length_nil]; go_simp) ?_
    have S3 := gr_trans S0 g3
    replace LF := Nat.le_trans S0.size LF
    clear eF e3 g3
    refine ⟨S3, ?_⟩
    simp only [Act.put, List.setIfInBounds_toArray, List.set_cons_zero, List.set_cons_succ]
    have hfm : (#[.int .i64 2, .string ⟨#[]⟩, .int .i64 c, .int .u32 o, .bool q, .bool false, .string ⟨#[]⟩, .slice none 0 0, .slice none 0 0, .bool false] : Array Value) = fmC (formP c o ⟨#[]⟩) none 0 none 0 := by rw [← hq.out]; rfl
    rw [hfm]
    clear hfm
    refine wpAnyH_done (by kernel_rfl) ?_ _
    change wpList _ _ _ _ _ _
    obtain ⟨W4, e4, r4, q4, o4⟩ := rowP1 (fmC (formP c o ⟨#[]⟩) none 0 none 0) N3
    have S4 := q4 V S3 LF
    have wF : w.heap.size ≤ F := Nat.le_trans gV.out.size LF
    have hFR : R ≠ F := by have := RV.out; omega
    obtain ⟨p, W5, ep, e5, r5, l5, g5⟩ := boxP1 W4 #[.string key] 9
    have S5 := gr_trans S4 g5
    have r45 := (g5.block F (Array.getElem?_eq_some_iff.1 r4).1 (by simp)).trans r4
    have c8 : W5.cell? ⟨F, 8, none⟩ = some (.slice none 0 0) := by unfold World.cell?; rw [r45]; rfl
    have f8 : W5.frozen? ⟨F, 8, none⟩ = false := frozen_of_row _ _ _ _ _ r45
    obtain ⟨W6, e6⟩ : ∃ W6, W5.setCell ⟨F, 8, none⟩ (.slice (some ⟨p, 0, none⟩) 1 1) = W6 := ⟨_, rfl⟩
    have r6 : W6.heap[F]? = some (.cells (fmC (formP c o key) none 0 (some ⟨p, 0, none⟩) 1) 29 (0, 0)) := by
      rw [← e6, heap_setCell_same W5 F 8 _ _ _ r45, form_key hk]
    have S6 : V.grownBy W6 none := by rw [← e6]; exact gr_cellP S5 LF
    have hpF : p ≠ F := by have := (Array.getElem?_eq_some_iff.1 r4).1; omega
    have r56 : W6.heap[p]? = some (.cells #[.string key] 9 (0, 0)) := by rw [← e6]; exact (heap_setCell_other _ _ _ _ hpF).trans r5
    have rR6 := (S6.block R RV.out (by simp)).trans rR.out
    obtain ⟨W7, e7, r7, q7, o7⟩ := rowP1 (fmC (formP c o key) none 0 (some ⟨p, 0, none⟩) 1) rR6
    have GE := hide (q7 w (gr_trans gV.out S6) wR.out)
    have wp : Hid (w.heap.size ≤ p) := Nat.le_trans gV.out.size (Nat.le_trans S4.size l5)
    have hpR : p ≠ R := by have h1 := RV.out; have h2 := S4.size; omega
    have KR := hide (keyRow ((o7 p hpR).trans r56))
    replace r4 := hide r4
    replace r6 := hide r6
    replace r7 := hide r7
    replace rR6 := hide rR6
    replace e4 := hide e4
    replace e7 := hide e7
    replace N3 := hide N3
    have HK := hide hk
    clear q4 o4 q7 o7 S3 S4 S5 S6 LF wF hFR hpF hpR r5 l5 g5 r45 r56
    refine wpList_store_row rfl 29 _ _ rfl F (fmC (formP c o ⟨#[]⟩) none 0 none 0) rfl rfl _ _ N3.out (fm_size _ _ _ _ _) rfl (fm_one _ _ _ _ _) ?_
    rw [e4.out]
    go_wp2_with (first
      | (refine wpList_load_row rfl 29 _ rfl F rfl _ _ _ _ r6.out Try.underlying29 rfl (fm_size _ _ _ _ _) ?_)
      | (refine wpList_store_row rfl 29 _ _ rfl R (fmC (formP c o key) none 0 (some ⟨p, 0, none⟩) 1) rfl rfl _ _ rR6.out (fm_size _ _ _ _ _) rfl (fm_one _ _ _ _ _) ?_; rw [e7.out]))
    refine bodyPost_ret (results_cell_row rfl _ _ R 29 (fmC (formP c o key) none 0 (some ⟨p, 0, none⟩) 1) (0, 0) _ rfl r7.out Try.underlying29 rfl (fm_size _ _ _ _ _)) rfl ?_
    refine ⟨_, _, rfl, ?_, (fun b o e => by cases e; exact wp.out), GE.out⟩
    have ek : (formP c o key).keys = [key] := by unfold formP; exact if_neg (by rw [HK.out]; decide)
    rw [ek]
    exact KR.out
  · refine wpOp_plain rfl rfl ?_
    obtain ⟨F, W3, eF, e3, N3, LF, g3⟩ := boxP1 W0 (fmC noF none 0 none 0) 29
    refine oper_value 5 (w' := W3) (v := .pointer (some ⟨F, 0, none⟩)) rfl (by rw [← eF, ← e3]; simp only [fmC, noF, List.length_nil]; go_simp) ?_
    have S3 := gr_trans S0 g3
    replace LF := Nat.le_trans S0.size LF
    clear eF e3 g3
    refine ⟨S3, ?_⟩
    simp only [Act.put, List.setIfInBounds_toArray, List.set_cons_zero, List.set_cons_succ]
    refine one_at 7 (by kernel_rfl) rfl rfl ?_
    refine oper_call 13 rfl (by go_simp) (HQ.out W3) ?_
    rintro e Wc ⟨rfl, hWc⟩
    subst hWc
    refine ⟨_, rfl, ?_⟩
    refine ⟨S3, ?_⟩
    simp only [Act.put, List.setIfInBounds_toArray, List.set_cons_zero, List.set_cons_succ]
    refine take_at 8 14 (v := .agg #[.int .i64 2, .string ⟨#[]⟩, .int .i64 c, .int .u32 o, .bool q, .bool false, .string ⟨#[]⟩, .slice none 0 0, .slice none 0 0, .bool false]) rfl rfl (by kernel_rfl) (by kernel_rfl) (by kernel_rfl) (fun _ _ _ h => h) (Or.inl ⟨by rfl, fun W hW => by go_simp⟩) S3 ?_
    simp only [Act.put, List.setIfInBounds_toArray, List.set_cons_zero, List.set_cons_succ]
    have hfm : (#[.int .i64 2, .string ⟨#[]⟩, .int .i64 c, .int .u32 o, .bool q, .bool false, .string ⟨#[]⟩, .slice none 0 0, .slice none 0 0, .bool false] : Array Value) = fmC (formP c o ⟨#[]⟩) none 0 none 0 := by rw [← hq.out]; rfl
    rw [hfm]
    clear hfm
    refine wpAnyH_done (by kernel_rfl) ?_ _
    change wpList _ _ _ _ _ _
    obtain ⟨W4, e4, r4, q4, o4⟩ := rowP1 (fmC (formP c o ⟨#[]⟩) none 0 none 0) N3
    have S4 := q4 V S3 LF
    have wF : w.heap.size ≤ F := Nat.le_trans gV.out.size LF
    have hFR : R ≠ F := by have := RV.out; omega
    obtain ⟨p, W5, ep, e5, r5, l5, g5⟩ := boxP1 W4 #[.string key] 9
    have S5 := gr_trans S4 g5
    have r45 := (g5.block F (Array.getElem?_eq_some_iff.1 r4).1 (by simp)).trans r4
    have c8 : W5.cell? ⟨F, 8, none⟩ = some (.slice none 0 0) := by unfold World.cell?; rw [r45]; rfl
    have f8 : W5.frozen? ⟨F, 8, none⟩ = false := frozen_of_row _ _ _ _ _ r45
    obtain ⟨W6, e6⟩ : ∃ W6, W5.setCell ⟨F, 8, none⟩ (.slice (some ⟨p, 0, none⟩) 1 1) = W6 := ⟨_, rfl⟩
    have r6 : W6.heap[F]? = some (.cells (fmC (formP c o key) none 0 (some ⟨p, 0, none⟩) 1) 29 (0, 0)) := by
      rw [← e6, heap_setCell_same W5 F 8 _ _ _ r45, form_key hk]
    have S6 : V.grownBy W6 none := by rw [← e6]; exact gr_cellP S5 LF
    have hpF : p ≠ F := by have := (Array.getElem?_eq_some_iff.1 r4).1; omega
    have r56 : W6.heap[p]? = some (.cells #[.string key] 9 (0, 0)) := by rw [← e6]; exact (heap_setCell_other _ _ _ _ hpF).trans r5
    have rR6 := (S6.block R RV.out (by simp)).trans rR.out
    obtain ⟨W7, e7, r7, q7, o7⟩ := rowP1 (fmC (formP c o key) none 0 (some ⟨p, 0, none⟩) 1) rR6
    have GE := hide (q7 w (gr_trans gV.out S6) wR.out)
    have wp : Hid (w.heap.size ≤ p) := Nat.le_trans gV.out.size (Nat.le_trans S4.size l5)
    have hpR : p ≠ R := by have h1 := RV.out; have h2 := S4.size; omega
    have KR := hide (keyRow ((o7 p hpR).trans r56))
    replace r4 := hide r4
    replace r6 := hide r6
    replace r7 := hide r7
    replace rR6 := hide rR6
    replace e4 := hide e4
    replace e7 := hide e7
    replace N3 := hide N3
    have HK := hide hk
    clear q4 o4 q7 o7 S3 S4 S5 S6 LF wF hFR hpF hpR r5 l5 g5 r45 r56
    refine wpList_store_row rfl 29 _ _ rfl F (fmC (formP c o ⟨#[]⟩) none 0 none 0) rfl rfl _ _ N3.out (fm_size _ _ _ _ _) rfl (fm_one _ _ _ _ _) ?_
    rw [e4.out]
    go_wp2_with (first
      | (refine wpList_load_row rfl 29 _ rfl F rfl _ _ _ _ r6.out Try.underlying29 rfl (fm_size _ _ _ _ _) ?_)
      | (refine wpList_store_row rfl 29 _ _ rfl R (fmC (formP c o key) none 0 (some ⟨p, 0, none⟩) 1) rfl rfl _ _ rR6.out (fm_size _ _ _ _ _) rfl (fm_one _ _ _ _ _) ?_; rw [e7.out]))
    refine bodyPost_ret (results_cell_row rfl _ _ R 29 (fmC (formP c o key) none 0 (some ⟨p, 0, none⟩) 1) (0, 0) _ rfl r7.out Try.underlying29 rfl (fm_size _ _ _ _ _)) rfl ?_
    refine ⟨_, _, rfl, ?_, (fun b o e => by cases e; exact wp.out), GE.out⟩
    have ek : (formP c o key).keys = [key] := by unfold formP; exact if_neg (by rw [HK.out]; decide)
    rw [ek]
    exact KR.out
theorem form_any {c k x o cas : Int} (key : ByteArray) (c0 : 0 ≤ c) (c1 : c ≤ 255) (o0 : 0 ≤ o) (o1 : o < 4294967296) :
    Calls Try.prog 38 #[.agg (hdC c k x o cas), .string key] w fun e w' => FormE (formP c o key) w e w' := by
  obtain ⟨⟨l⟩⟩ := key
  cases l with
  | nil => exact form_nil c0 c1 o0 o1
  | cons a l => exact form_cons (key := ⟨⟨a :: l⟩⟩) rfl (by simp) c0 c1 o0 o1
end
end Go.Proofs.Ytegaljpllcgaaaa
