/- Package binin's request: a value that is too long. Conditions: a code of a byte. Package binin's request: a request. Conditions: a code of a byte. -/
import Derived.Test.YtegaljpllcgaaaaBinPReqA
namespace Go.Proofs.Ytegaljpllcgaaaa
set_option linter.unusedVariables false
open Go.RowKit Go.Shelf

section
variable {w : World} {g off l : Nat} {bd : List UInt8}
set_option maxRecDepth 100000 in
set_option maxHeartbeats 16000000 in
theorem req_D {c o cas z fl exp del ini : Int} {mk : Bool} {x k v : Nat} {key : ByteArray} {val : List UInt8} {o2 o3 : Nat} (H : BodyH w g off l bd c z x k v key val o2 o3)
    (hx : ∀ (W : World) (K : Nat) (va : Option Addr) (vc : Nat), W.heap[K]? = some (.cells (cell0 z key va v vc 0 0 cas 0 0 false) 39 (0, 0)) → Bu W (some ⟨g, off, none⟩) x x (bd.take x) → g ≠ K → Calls Try.prog 35 #[.pointer (some ⟨K, 0, none⟩), .slice (some ⟨g, off, none⟩) x x] W fun e w' => RdE W K true (cell0 z key va v vc fl exp cas del ini mk) e w') (hk : ∀ (W : World) (va : Option Addr) (vc : Nat), Calls Try.prog 36 #[.agg (cell0 z key va v vc fl exp cas del ini mk)] W fun e w' => e = .returned (.bool true) ∧ W.grownBy w' none) (hw : ∀ (W : World) (va : Option Addr) (vc : Nat), Calls Try.prog 37 #[.agg (cell0 z key va v vc fl exp cas del ini mk)] W fun e w' => e = .returned (.bool true) ∧ W.grownBy w' none) (hv : 1000 < v) :
    Calls Try.prog 20 #[.agg (hdC c (k : Int) (x : Int) o cas), .slice (some ⟨g, off, none⟩) l l] w fun e w' => ReqE noQ 3 w e w' := by
  have HO := hide (fun (W : World) => op_any c W)
  rw [H.op] at HO
  have lm := H.lm
  have ll := H.len
  have e1 : wrap64 ((x : Int) + (k : Int)) = (x : Int) + (k : Int) := by unfold wrap64; omega
  have e3 : ¬ (l : Int) < (x : Int) + (k : Int) := by omega
  have e4 : (1000 : Int) < (v : Int) := by omega
  have HC := hide (fun (W : World) => cut_any (w := W) (c := c) (o := o) (s := cas) ll (by omega) H.s1 H.s2 H.s3)
  have gw := hide H.gw
  have b1 := hide H.b1
  have HKY := hide H.b2
  have HCL := hide (fun (W : World) (h : w.grownBy W none) => bclone_any (by omega) (H.b3 W h))
  have HX := hide hx
  have HK := hide hk
  have HW := hide hw
  obtain ⟨V0, hV0⟩ : ∃ V0, V0 = w.alloc (.cells (hdC c (k : Int) (x : Int) o cas) 54) := ⟨_, rfl⟩
  obtain ⟨B, hB_⟩ : ∃ B, B = w.heap.size := ⟨_, rfl⟩
  have g0 : w.grownBy V0 none := by rw [hV0]; exact World.grownBy_alloc _ _ _
  have r0 : V0.heap[B]? = some (.cells (hdC c (k : Int) (x : Int) o cas) 54 (0, 0)) := by rw [hV0, hB_]; exact World.alloc_heap_new w _
  obtain ⟨V, hV⟩ : ∃ V, V = V0.alloc (.cells noRow 31) := ⟨_, rfl⟩
  obtain ⟨R, hR⟩ : ∃ R, R = V0.heap.size := ⟨_, rfl⟩
  have g1 : V0.grownBy V none := by rw [hV]; exact World.grownBy_alloc _ _ _
  have rR : V.heap[R]? = some (.cells noRow 31 (0, 0)) := by rw [hV, hR]; exact World.alloc_heap_new V0 _
  have RV := hide (Array.getElem?_eq_some_iff.1 rR).1
  have wR : Hid (w.heap.size ≤ R) := by show _ ≤ _; rw [hR]; exact g0.size
  have rB := (g1.block B (Array.getElem?_eq_some_iff.1 r0).1 (by simp)).trans r0
  have BV := hide (Array.getElem?_eq_some_iff.1 rB).1
  have gV := hide (gr_trans g0 g1)
  have k0 : V.cell? ⟨B, 0, none⟩ = some (.int .u8 c) := by unfold World.cell?; rw [rB]; rfl
  have k1 : V.cell? ⟨B, 1, none⟩ = some (.int .i64 (k : Int)) := by unfold World.cell?; rw [rB]; rfl
  have k2 : V.cell? ⟨B, 2, none⟩ = some (.int .i64 (x : Int)) := by unfold World.cell?; rw [rB]; rfl
  have hBR : B + 1 = R := by rw [hR, hV0, World.size_alloc, hB_]
  replace rR := hide rR
  replace rB := hide rB
  clear r0 g0 g1
  clear H lm ll hx hk hw hv
  simp only [noRow_eq] at hV
  have k4 := hide (fun (W : World) (hW : V.grownBy W none) => (show W.cell? ⟨B, 4, none⟩ = some (.int .u64 cas) by
    have e := (hW.block B BV.out (by simp)).trans rB.out
    unfold World.cell?
    rw [e]
    rfl))
  conv at hV0 => rhs; simp only [hdC]
  go_enter Try.func20, Try.ntmps20
  simp only [hdC]
  go_upto_region 1 with fail
  rw [← hV0, ← hV, ← hB_, hBR]
  clear hV0 hB_ hR hV hBR
  go_upto_region 7 with (first
    | (go_at_call 32; refine (HO.out _).mono ?_; rintro e w1 ⟨rfl, hw1⟩; rw [hw1]; clear hw1)
    | (refine wpList_load_row rfl 54 _ rfl B rfl _ _ _ _ rB.out Try.underlying54 rfl (hd_size _ _ _ _ _) ?_)
    | (go_at_call 33; refine (HC.out _).mono ?_; rintro e w2 ⟨rfl, G2⟩; replace G2 := hide G2))
  clear k0 k1 k2 HC HO
  refine region_htail (S := fun W' => w2.grownBy W' none) 9 (by kernel_rfl) (by simp) (by kernel_rfl) ?_
  simp only [List.take_succ_cons, List.take_zero, List.drop_succ_cons, List.drop_zero]
  have S0 : w2.grownBy w2.drew none := gr_of_below (Below.drew (Below.refl _ _))
  generalize w2.drew = W0 at *
  refine take_at 0 37 (v := .int .i64 z) rfl rfl (by kernel_rfl) (by kernel_rfl) (by kernel_rfl) (fun _ _ _ h => h) (Or.inl ⟨by rfl, fun W hW => by go_simp⟩) S0 ?_
  simp only [Act.put, List.setIfInBounds_toArray, List.set_cons_zero, List.set_cons_succ]
  refine take_at 1 38 (v := .slice (some ⟨g, o2, none⟩) k k) rfl rfl (by kernel_rfl) (by kernel_rfl) (by kernel_rfl) (fun _ _ _ h => h) (Or.inl ⟨by rfl, fun W hW => by go_simp⟩) S0 ?_
  simp only [Act.put, List.setIfInBounds_toArray, List.set_cons_zero, List.set_cons_succ]
  refine take_at 2 39 (v := .string key) rfl rfl (by kernel_rfl) (by kernel_rfl) (by kernel_rfl) (fun _ _ _ h => h) (Or.inl ⟨by rfl, fun W hW => by have cv := HKY.out W (gr_trans gV.out (gr_trans G2.out hW)); go_simp⟩) S0 ?_
  simp only [Act.put, List.setIfInBounds_toArray, List.set_cons_zero, List.set_cons_succ]
  refine take_at 3 40 (v := .slice (some ⟨g, o3, none⟩) v v) rfl rfl (by kernel_rfl) (by kernel_rfl) (by kernel_rfl) (fun _ _ _ h => h) (Or.inl ⟨by rfl, fun W hW => by go_simp⟩) S0 ?_
  simp only [Act.put, List.setIfInBounds_toArray, List.set_cons_zero, List.set_cons_succ]
  refine take_at 5 42 (v := .pointer (some ⟨B, 4, none⟩)) rfl rfl (by kernel_rfl) (by kernel_rfl) (by kernel_rfl) (fun _ _ _ h => h) (Or.inl ⟨by rfl, fun W hW => by go_simp⟩) S0 ?_
  simp only [Act.put, List.setIfInBounds_toArray, List.set_cons_zero, List.set_cons_succ]
  refine take_at 6 43 (v := .int .u64 cas) rfl rfl (by kernel_rfl) (by kernel_rfl) (by kernel_rfl) (fun _ _ _ h => h) (Or.inl ⟨by rfl, fun W hW => by have cc := k4.out W (gr_trans G2.out hW); go_simp⟩) S0 ?_
  simp only [Act.put, List.setIfInBounds_toArray, List.set_cons_zero, List.set_cons_succ]
  clear k4 HKY
  refine wpAnyH_all (rs := [4, 8]) (by kernel_rfl) (by simp) fun j hj => ?_
  simp only [List.mem_cons, List.not_mem_nil, or_false] at hj
  rcases hj with rfl | rfl
  · refine wpOp_plain rfl rfl ?_
    refine oper_call 41 rfl (by go_simp) (HCL.out W0 (gr_trans gV.out (gr_trans G2.out S0))) ?_
    rintro e W1 ⟨va, vc, rfl, hva, gc⟩
    refine ⟨_, rfl, ?_⟩
    have S1 := gr_trans S0 gc
    refine ⟨S1, ?_⟩
    simp only [Act.put, List.setIfInBounds_toArray, List.set_cons_zero, List.set_cons_succ]
    refine take_at 7 44 (v := .agg (cell0 z key va v vc 0 0 cas 0 0 false)) rfl rfl (by kernel_rfl) (by kernel_rfl) (by kernel_rfl) (fun _ _ _ h => h) (Or.inl ⟨by rfl, fun W hW => by unfold cell0; go_simp⟩) S1 ?_
    simp only [Act.put, List.setIfInBounds_toArray, List.set_cons_zero, List.set_cons_succ]
    refine one_at 8 (by kernel_rfl) rfl rfl ?_
    obtain ⟨K, W3, eK, ek, N3, LK, gk⟩ := boxP1 W1 zeroCp 39
    refine oper_value 11 (w' := W3) (v := .pointer (some ⟨K, 0, none⟩)) rfl (by rw [← eK, ← ek]; unfold zeroCp; go_simp) ?_
    clear eK ek
    have S3 := gr_trans S1 gk
    replace LK := Nat.le_trans S1.size LK
    clear gc gk hva S0 S1 HCL
    refine ⟨S3, ?_⟩
    simp only [Act.put, List.setIfInBounds_toArray, List.set_cons_zero, List.set_cons_succ]
    refine wpAnyH_done (by kernel_rfl) ?_ _
    change wpList _ _ _ _ _ _
    obtain ⟨W4, e4, r4, q4, o4⟩ := rowP1 (cell0 z key va v vc 0 0 cas 0 0 false) N3
    have S4 := q4 w2 S3 LK
    have G4 := gr_trans G2.out S4
    have gW := gr_trans gV.out G4
    have VK : V.heap.size ≤ K := Nat.le_trans G2.out.size LK
    have wK : w.heap.size ≤ K := Nat.le_trans gV.out.size VK
    have gK : g ≠ K := by have := gw.out; omega
    have HX4 := hide (HX.out W4 K va vc r4 (b1.out W4 gW) gK)
    replace e4 := hide e4
    replace N3 := hide N3
    have G4' := hide G4
    replace VK := hide VK
    clear q4 o4 S3 S4 LK G4 gW wK gK
    refine wpList_store_row rfl 39 _ _ rfl K (cell0 z key va v vc 0 0 cas 0 0 false) rfl rfl _ _ N3.out (c0_size _ _ _ _ _ _ _ _ _ _ _) rfl (c0_one _ _ _ _ _ _ _ _ _ _ _) ?_
    rw [e4.out]
    go_wp2_with (first
      | (go_at_call 35; refine HX4.out.mono ?_; rintro e w5 ⟨rfl, g5, h5⟩; have G5 := hide (gr_new (row := none) G4'.out g5 VK.out); have r5 := hide (h5 rfl); clear g5 h5)
      | (refine wpList_load_g rfl 39 _ rfl K rfl _ _ _ _ r5.out Try.underlying39 rfl (c0_size _ _ _ _ _ _ _ _ _ _ _) ?_)
      | (go_at_call 36; refine (HK.out _ va vc).mono ?_; rintro e w6 ⟨rfl, g6⟩; have G6 := hide (gr_trans G5.out g6); have r6 := hide ((g6.block K (Array.getElem?_eq_some_iff.1 r5.out).1 (by simp)).trans r5.out); clear g6)
      | (refine wpList_load_g rfl 39 _ rfl K rfl _ _ _ _ r6.out Try.underlying39 rfl (c0_size _ _ _ _ _ _ _ _ _ _ _) ?_)
      | (go_at_call 37; refine (HW.out _ va vc).mono ?_; rintro e w7 ⟨rfl, g7⟩; have G7 := hide (gr_trans G6.out g7); have r7 := hide ((g7.block K (Array.getElem?_eq_some_iff.1 r6.out).1 (by simp)).trans r6.out); clear g7; obtain ⟨W9, e9, r9, q9, o9⟩ := rowP1 noRow ((G7.out.block R RV.out (by simp)).trans rR.out); have rX := hide ((G7.out.block R RV.out (by simp)).trans rR.out); have GE := hide (q9 w (gr_trans gV.out G7.out) wR.out); replace r9 := hide r9; replace e9 := hide e9; clear q9 o9)
      | (refine wpList_store_row rfl 31 _ _ rfl R noRow rfl rfl _ _ rX.out (req_size noQ none none none 0 0 0) rfl (req_one noQ none none none 0 0 0) ?_; rw [e9.out]))
    exact reqE_no rfl r9.out rfl rfl GE.out
  · refine wpOp_plain rfl rfl ?_
    obtain ⟨K, W1, eK, ek, N3, LK, gk⟩ := boxP1 W0 zeroCp 39
    refine oper_value 11 (w' := W1) (v := .pointer (some ⟨K, 0, none⟩)) rfl (by rw [← eK, ← ek]; unfold zeroCp; go_simp) ?_
    clear eK ek
    have S1 := gr_trans S0 gk
    refine ⟨S1, ?_⟩
    simp only [Act.put, List.setIfInBounds_toArray, List.set_cons_zero, List.set_cons_succ]
    refine one_at 4 (by kernel_rfl) rfl rfl ?_
    refine oper_call 41 rfl (by go_simp) (HCL.out W1 (gr_trans gV.out (gr_trans G2.out S1))) ?_
    rintro e W3 ⟨va, vc, rfl, hva, gc⟩
    refine ⟨_, rfl, ?_⟩
    have S3 := gr_trans S1 gc
    replace N3 := (gc.block K (Array.getElem?_eq_some_iff.1 N3).1 (by simp)).trans N3
    replace LK := Nat.le_trans S0.size LK
    refine ⟨S3, ?_⟩
    simp only [Act.put, List.setIfInBounds_toArray, List.set_cons_zero, List.set_cons_succ]
    refine take_at 7 44 (v := .agg (cell0 z key va v vc 0 0 cas 0 0 false)) rfl rfl (by kernel_rfl) (by kernel_rfl) (by kernel_rfl) (fun _ _ _ h => h) (Or.inl ⟨by rfl, fun W hW => by unfold cell0; go_simp⟩) S3 ?_
    simp only [Act.put, List.setIfInBounds_toArray, List.set_cons_zero, List.set_cons_succ]
    clear gc gk hva S0 S1 HCL
    refine wpAnyH_done (by kernel_rfl) ?_ _
    change wpList _ _ _ _ _ _
    obtain ⟨W4, e4, r4, q4, o4⟩ := rowP1 (cell0 z key va v vc 0 0 cas 0 0 false) N3
    have S4 := q4 w2 S3 LK
    have G4 := gr_trans G2.out S4
    have gW := gr_trans gV.out G4
    have VK : V.heap.size ≤ K := Nat.le_trans G2.out.size LK
    have wK : w.heap.size ≤ K := Nat.le_trans gV.out.size VK
    have gK : g ≠ K := by have := gw.out; omega
    have HX4 := hide (HX.out W4 K va vc r4 (b1.out W4 gW) gK)
    replace e4 := hide e4
    replace N3 := hide N3
    have G4' := hide G4
    replace VK := hide VK
    clear q4 o4 S3 S4 LK G4 gW wK gK
    refine wpList_store_row rfl 39 _ _ rfl K (cell0 z key va v vc 0 0 cas 0 0 false) rfl rfl _ _ N3.out (c0_size _ _ _ _ _ _ _ _ _ _ _) rfl (c0_one _ _ _ _ _ _ _ _ _ _ _) ?_
    rw [e4.out]
    go_wp2_with (first
      | (go_at_call 35; refine HX4.out.mono ?_; rintro e w5 ⟨rfl, g5, h5⟩; have G5 := hide (gr_new (row := none) G4'.out g5 VK.out); have r5 := hide (h5 rfl); clear g5 h5)
      | (refine wpList_load_g rfl 39 _ rfl K rfl _ _ _ _ r5.out Try.underlying39 rfl (c0_size _ _ _ _ _ _ _ _ _ _ _) ?_)
      | (go_at_call 36; refine (HK.out _ va vc).mono ?_; rintro e w6 ⟨rfl, g6⟩; have G6 := hide (gr_trans G5.out g6); have r6 := hide ((g6.block K (Array.getElem?_eq_some_iff.1 r5.out).1 (by simp)).trans r5.out); clear g6)
      | (refine wpList_load_g rfl 39 _ rfl K rfl _ _ _ _ r6.out Try.underlying39 rfl (c0_size _ _ _ _ _ _ _ _ _ _ _) ?_)
      | (go_at_call 37; refine (HW.out _ va vc).mono ?_; rintro e w7 ⟨rfl, g7⟩; have G7 := hide (gr_trans G6.out g7); have r7 := hide ((g7.block K (Array.getElem?_eq_some_iff.1 r6.out).1 (by simp)).trans r6.out); clear g7; obtain ⟨W9, e9, r9, q9, o9⟩ := rowP1 noRow ((G7.out.block R RV.out (by simp)).trans rR.out); have rX := hide ((G7.out.block R RV.out (by simp)).trans rR.out); have GE := hide (q9 w (gr_trans gV.out G7.out) wR.out); replace r9 := hide r9; replace e9 := hide e9; clear q9 o9)
      | (refine wpList_store_row rfl 31 _ _ rfl R noRow rfl rfl _ _ rX.out (req_size noQ none none none 0 0 0) rfl (req_one noQ none none none 0 0 0) ?_; rw [e9.out]))
    exact reqE_no rfl r9.out rfl rfl GE.out
end
end Go.Proofs.Ytegaljpllcgaaaa

namespace Go.Proofs.Ytegaljpllcgaaaa
set_option linter.unusedVariables false
open Go.RowKit Go.Shelf

section
variable {w : World} {g off l : Nat} {bd : List UInt8}
set_option maxRecDepth 100000 in
set_option maxHeartbeats 16000000 in
theorem req_E {c o cas z fl exp del ini : Int} {mk : Bool} {x k v : Nat} {key : ByteArray} {val : List UInt8} {o2 o3 : Nat} (H : BodyH w g off l bd c z x k v key val o2 o3)
    (hx : ∀ (W : World) (K : Nat) (va : Option Addr) (vc : Nat), W.heap[K]? = some (.cells (cell0 z key va v vc 0 0 cas 0 0 false) 39 (0, 0)) → Bu W (some ⟨g, off, none⟩) x x (bd.take x) → g ≠ K → Calls Try.prog 35 #[.pointer (some ⟨K, 0, none⟩), .slice (some ⟨g, off, none⟩) x x] W fun e w' => RdE W K true (cell0 z key va v vc fl exp cas del ini mk) e w') (hk : ∀ (W : World) (va : Option Addr) (vc : Nat), Calls Try.prog 36 #[.agg (cell0 z key va v vc fl exp cas del ini mk)] W fun e w' => e = .returned (.bool true) ∧ W.grownBy w' none) (hw : ∀ (W : World) (va : Option Addr) (vc : Nat), Calls Try.prog 37 #[.agg (cell0 z key va v vc fl exp cas del ini mk)] W fun e w' => e = .returned (.bool true) ∧ W.grownBy w' none) (hv : v ≤ 1000) (hvl : val.length = v) (o0 : 0 ≤ o) (o1 : o < 4294967296) (c0 : 0 ≤ c) (c1 : c ≤ 255) :
    Calls Try.prog 20 #[.agg (hdC c (k : Int) (x : Int) o cas), .slice (some ⟨g, off, none⟩) l l] w fun e w' => ReqE ⟨[⟨z, key, val, fl, exp, cas, del, ini, mk, false⟩], formP c o key⟩ 0 w e w' := by
  have HO := hide (fun (W : World) => op_any c W)
  rw [H.op] at HO
  have lm := H.lm
  have ll := H.len
  have e1 : wrap64 ((x : Int) + (k : Int)) = (x : Int) + (k : Int) := by unfold wrap64; omega
  have e3 : ¬ (l : Int) < (x : Int) + (k : Int) := by omega
  have e4 : ¬ (1000 : Int) < (v : Int) := by omega
  have valF := hide hvl
  have HF := hide (fun (W : World) => form_any (w := W) (c := c) (k := (k : Int)) (x := (x : Int)) (o := o) (cas := cas) key c0 c1 o0 o1)
  have HC := hide (fun (W : World) => cut_any (w := W) (c := c) (o := o) (s := cas) ll (by omega) H.s1 H.s2 H.s3)
  have gw := hide H.gw
  have b1 := hide H.b1
  have HKY := hide H.b2
  have HCL := hide (fun (W : World) (h : w.grownBy W none) => bclone_any (by omega) (H.b3 W h))
  have HX := hide hx
  have HK := hide hk
  have HW := hide hw
  obtain ⟨V0, hV0⟩ : ∃ V0, V0 = w.alloc (.cells (hdC c (k : Int) (x : Int) o cas) 54) := ⟨_, rfl⟩
  obtain ⟨B, hB_⟩ : ∃ B, B = w.heap.size := ⟨_, rfl⟩
  have g0 : w.grownBy V0 none := by rw [hV0]; exact World.grownBy_alloc _ _ _
  have r0 : V0.heap[B]? = some (.cells (hdC c (k : Int) (x : Int) o cas) 54 (0, 0)) := by rw [hV0, hB_]; exact World.alloc_heap_new w _
  obtain ⟨V, hV⟩ : ∃ V, V = V0.alloc (.cells noRow 31) := ⟨_, rfl⟩
  obtain ⟨R, hR⟩ : ∃ R, R = V0.heap.size := ⟨_, rfl⟩
  have g1 : V0.grownBy V none := by rw [hV]; exact World.grownBy_alloc _ _ _
  have rR : V.heap[R]? = some (.cells noRow 31 (0, 0)) := by rw [hV, hR]; exact World.alloc_heap_new V0 _
  have RV := hide (Array.getElem?_eq_some_iff.1 rR).1
  have wR : Hid (w.heap.size ≤ R) := by show _ ≤ _; rw [hR]; exact g0.size
  have rB := (g1.block B (Array.getElem?_eq_some_iff.1 r0).1 (by simp)).trans r0
  have BV := hide (Array.getElem?_eq_some_iff.1 rB).1
  have gV := hide (gr_trans g0 g1)
  have k0 : V.cell? ⟨B, 0, none⟩ = some (.int .u8 c) := by unfold World.cell?; rw [rB]; rfl
  have k1 : V.cell? ⟨B, 1, none⟩ = some (.int .i64 (k : Int)) := by unfold World.cell?; rw [rB]; rfl
  have k2 : V.cell? ⟨B, 2, none⟩ = some (.int .i64 (x : Int)) := by unfold World.cell?; rw [rB]; rfl
  have hBR : B + 1 = R := by rw [hR, hV0, World.size_alloc, hB_]
  replace rR := hide rR
  replace rB := hide rB
  clear r0 g0 g1
  clear H lm ll hx hk hw hv hvl o0 o1 c0 c1
  simp only [noRow_eq] at hV
  have k4 := hide (fun (W : World) (hW : V.grownBy W none) => (show W.cell? ⟨B, 4, none⟩ = some (.int .u64 cas) by
    have e := (hW.block B BV.out (by simp)).trans rB.out
    unfold World.cell?
    rw [e]
    rfl))
  conv at hV0 => rhs; simp only [hdC]
  go_enter Try.func20, Try.ntmps20
  simp only [hdC]
  go_upto_region 1 with fail
  rw [← hV0, ← hV, ← hB_, hBR]
  clear hV0 hB_ hR hV hBR
  go_upto_region 7 with (first
    | (go_at_call 32; refine (HO.out _).mono ?_; rintro e w1 ⟨rfl, hw1⟩; rw [hw1]; clear hw1)
    | (refine wpList_load_row rfl 54 _ rfl B rfl _ _ _ _ rB.out Try.underlying54 rfl (hd_size _ _ _ _ _) ?_)
    | (go_at_call 33; refine (HC.out _).mono ?_; rintro e w2 ⟨rfl, G2⟩; replace G2 := hide G2))
  clear k0 k1 k2 HC HO
  refine region_htail (S := fun W' => w2.grownBy W' none) 9 (by kernel_rfl) (by simp) (by kernel_rfl) ?_
  simp only [List.take_succ_cons, List.take_zero, List.drop_succ_cons, List.drop_zero]
  have S0 : w2.grownBy w2.drew none := gr_of_below (Below.drew (Below.refl _ _))
  generalize w2.drew = W0 at *
  refine take_at 0 37 (v := .int .i64 z) rfl rfl (by kernel_rfl) (by kernel_rfl) (by kernel_rfl) (fun _ _ _ h => h) (Or.inl ⟨by rfl, fun W hW => by go_simp⟩) S0 ?_
  simp only [Act.put, List.setIfInBounds_toArray, List.set_cons_zero, List.set_cons_succ]
  refine take_at 1 38 (v := .slice (some ⟨g, o2, none⟩) k k) rfl rfl (by kernel_rfl) (by kernel_rfl) (by kernel_rfl) (fun _ _ _ h => h) (Or.inl ⟨by rfl, fun W hW => by go_simp⟩) S0 ?_
  simp only [Act.put, List.setIfInBounds_toArray, List.set_cons_zero, List.set_cons_succ]
  refine take_at 2 39 (v := .string key) rfl rfl (by kernel_rfl) (by kernel_rfl) (by kernel_rfl) (fun _ _ _ h => h) (Or.inl ⟨by rfl, fun W hW => by have cv := HKY.out W (gr_trans gV.out (gr_trans G2.out hW)); go_simp⟩) S0 ?_
  simp only [Act.put, List.setIfInBounds_toArray, List.set_cons_zero, List.set_cons_succ]
  refine take_at 3 40 (v := .slice (some ⟨g, o3, none⟩) v v) rfl rfl (by kernel_rfl) (by kernel_rfl) (by kernel_rfl) (fun _ _ _ h => h) (Or.inl ⟨by rfl, fun W hW => by go_simp⟩) S0 ?_
  simp only [Act.put, List.setIfInBounds_toArray, List.set_cons_zero, List.set_cons_succ]
  refine take_at 5 42 (v := .pointer (some ⟨B, 4, none⟩)) rfl rfl (by kernel_rfl) (by kernel_rfl) (by kernel_rfl) (fun _ _ _ h => h) (Or.inl ⟨by rfl, fun W hW => by go_simp⟩) S0 ?_
  simp only [Act.put, List.setIfInBounds_toArray, List.set_cons_zero, List.set_cons_succ]
  refine take_at 6 43 (v := .int .u64 cas) rfl rfl (by kernel_rfl) (by kernel_rfl) (by kernel_rfl) (fun _ _ _ h => h) (Or.inl ⟨by rfl, fun W hW => by have cc := k4.out W (gr_trans G2.out hW); go_simp⟩) S0 ?_
  simp only [Act.put, List.setIfInBounds_toArray, List.set_cons_zero, List.set_cons_succ]
  clear k4 HKY
  refine wpAnyH_all (rs := [4, 8]) (by kernel_rfl) (by simp) fun j hj => ?_
  simp only [List.mem_cons, List.not_mem_nil, or_false] at hj
  rcases hj with rfl | rfl
  · refine wpOp_plain rfl rfl ?_
    refine oper_call 41 rfl (by go_simp) (HCL.out W0 (gr_trans gV.out (gr_trans G2.out S0))) ?_
    rintro e W1 ⟨va, vc, rfl, hva, gc⟩
    refine ⟨_, rfl, ?_⟩
    have S1 := gr_trans S0 gc
    refine ⟨S1, ?_⟩
    simp only [Act.put, List.setIfInBounds_toArray, List.set_cons_zero, List.set_cons_succ]
    refine take_at 7 44 (v := .agg (cell0 z key va v vc 0 0 cas 0 0 false)) rfl rfl (by kernel_rfl) (by kernel_rfl) (by kernel_rfl) (fun _ _ _ h => h) (Or.inl ⟨by rfl, fun W hW => by unfold cell0; go_simp⟩) S1 ?_
    simp only [Act.put, List.setIfInBounds_toArray, List.set_cons_zero, List.set_cons_succ]
    refine one_at 8 (by kernel_rfl) rfl rfl ?_
    obtain ⟨K, W3, eK, ek, N3, LK, gk⟩ := boxP1 W1 zeroCp 39
    refine oper_value 11 (w' := W3) (v := .pointer (some ⟨K, 0, none⟩)) rfl (by rw [← eK, ← ek]; unfold zeroCp; go_simp) ?_
    clear eK ek
    have S3 := gr_trans S1 gk
    have OV := (off_old (K := K) (by have := hva.bu; rwa [valF.out] at this) LK).turn gk (fun k h => by cases h)
    have nR := hide (off_new (K := R) hva valF.out (by have h1 := RV.out; have h2 := G2.out.size; have h3 := S0.size; omega)).2
    have nV := hide (off_ge (K := w.heap.size) hva valF.out (by have h1 := gV.out.size; have h2 := G2.out.size; have h3 := S0.size; omega))
    replace LK := Nat.le_trans S1.size LK
    clear gc gk hva S0 S1 HCL
    refine ⟨S3, ?_⟩
    simp only [Act.put, List.setIfInBounds_toArray, List.set_cons_zero, List.set_cons_succ]
    refine wpAnyH_done (by kernel_rfl) ?_ _
    change wpList _ _ _ _ _ _
    obtain ⟨W4, e4, r4, q4, o4⟩ := rowP1 (cell0 z key va v vc 0 0 cas 0 0 false) N3
    have S4 := q4 w2 S3 LK
    have G4 := gr_trans G2.out S4
    have gW := gr_trans gV.out G4
    have VK : V.heap.size ≤ K := Nat.le_trans G2.out.size LK
    have wK : w.heap.size ≤ K := Nat.le_trans gV.out.size VK
    have gK : g ≠ K := by have := gw.out; omega
    have HX4 := hide (HX.out W4 K va vc r4 (b1.out W4 gW) gK)
    replace e4 := hide e4
    replace N3 := hide N3
    have OV4 := OV.turn (row := some K) (W' := W4) ⟨(by rw [← e4.out]; rfl), (by rw [← e4.out]; rfl), (by rw [← e4.out]; rfl), (by rw [← e4.out, size_setRow]; exact Nat.le_refl _), fun k _ hn => o4 k (fun e => hn (by rw [e]))⟩ (fun k h => (Option.some.inj h).symm)
    have G4' := hide G4
    replace VK := hide VK
    clear q4 o4 S3 S4 LK G4 gW wK gK OV
    refine wpList_store_row rfl 39 _ _ rfl K (cell0 z key va v vc 0 0 cas 0 0 false) rfl rfl _ _ N3.out (c0_size _ _ _ _ _ _ _ _ _ _ _) rfl (c0_one _ _ _ _ _ _ _ _ _ _ _) ?_
    rw [e4.out]
    go_upto_region 12 with (first
      | (go_at_call 35; refine HX4.out.mono ?_; rintro e w5 ⟨rfl, g5, h5⟩; have G5 := hide (gr_new (row := none) G4'.out g5 VK.out); have r5 := hide (h5 rfl); have OV5 := hide (OV4.turn g5 (fun k h => (Option.some.inj h).symm)); clear g5 h5)
      | (refine wpList_load_g rfl 39 _ rfl K rfl _ _ _ _ r5.out Try.underlying39 rfl (c0_size _ _ _ _ _ _ _ _ _ _ _) ?_)
      | (go_at_call 36; refine (HK.out _ va vc).mono ?_; rintro e w6 ⟨rfl, g6⟩; have G6 := hide (gr_trans G5.out g6); have r6 := hide ((g6.block K (Array.getElem?_eq_some_iff.1 r5.out).1 (by simp)).trans r5.out); have OV6 := hide (OV5.out.turn g6 (fun k h => by cases h)); clear g6)
      | (refine wpList_load_g rfl 39 _ rfl K rfl _ _ _ _ r6.out Try.underlying39 rfl (c0_size _ _ _ _ _ _ _ _ _ _ _) ?_)
      | (go_at_call 37; refine (HW.out _ va vc).mono ?_; rintro e w7 ⟨rfl, g7⟩; have G7 := hide (gr_trans G6.out g7); have r7 := hide ((g7.block K (Array.getElem?_eq_some_iff.1 r6.out).1 (by simp)).trans r6.out); have OV7 := hide (OV6.out.turn g7 (fun k h => by cases h)); clear g7))
    clear r5 r6 OV4 OV5 OV6 HX4
    refine region_htail (S := fun W' => w7.grownBy W' none) 7 (by kernel_rfl) (by simp) (by kernel_rfl) ?_
    simp only [List.take_succ_cons, List.take_zero, List.drop_succ_cons, List.drop_zero]
    have T0 : w7.grownBy w7.drew none := gr_of_below (Below.drew (Below.refl _ _))
    generalize w7.drew = X0 at *
    refine take_at 0 63 (v := .agg (cell0 z key va v vc fl exp cas del ini mk)) rfl rfl (by kernel_rfl) (by kernel_rfl) (by kernel_rfl) (fun _ _ _ h => h) (Or.inl ⟨by rfl, fun W hW => run_load_rowP 39 _ rfl K rfl ((hW.block K (Array.getElem?_eq_some_iff.1 r7.out).1 (by simp)).trans r7.out) Try.underlying39 rfl (c0_size _ _ _ _ _ _ _ _ _ _ _)⟩) T0 ?_
    simp only [Act.put, List.setIfInBounds_toArray, List.set_cons_zero, List.set_cons_succ]
    refine take_at 2 65 (v := .agg (hdC c (k : Int) (x : Int) o cas)) rfl rfl (by kernel_rfl) (by kernel_rfl) (by kernel_rfl) (fun _ _ _ h => h) (Or.inl ⟨by rfl, fun W hW => run_load_rowP 54 _ rfl B rfl (((gr_trans G7.out hW).block B BV.out (by simp)).trans rB.out) Try.underlying54 rfl (hd_size _ _ _ _ _)⟩) T0 ?_
    simp only [Act.put, List.setIfInBounds_toArray, List.set_cons_zero, List.set_cons_succ]
    refine take_at 3 66 (v := .pointer (some ⟨K, 1, none⟩)) rfl rfl (by kernel_rfl) (by kernel_rfl) (by kernel_rfl) (fun _ _ _ h => h) (Or.inl ⟨by rfl, fun W hW => by go_simp⟩) T0 ?_
    simp only [Act.put, List.setIfInBounds_toArray, List.set_cons_zero, List.set_cons_succ]
    refine take_at 4 67 (v := .string key) rfl rfl (by kernel_rfl) (by kernel_rfl) (by kernel_rfl) (fun _ _ _ h => h) (Or.inl ⟨by rfl, fun W hW => by have e := (hW.block K (Array.getElem?_eq_some_iff.1 r7.out).1 (by simp)).trans r7.out; have cc : W.cell? ⟨K, 1, none⟩ = some (.string key) := (by unfold World.cell?; rw [e]; rfl); clear e; go_simp⟩) T0 ?_
    simp only [Act.put, List.setIfInBounds_toArray, List.set_cons_zero, List.set_cons_succ]
    refine wpAnyH_all (rs := [1, 5]) (by kernel_rfl) (by simp) fun j hj => ?_
    simp only [List.mem_cons, List.not_mem_nil, or_false] at hj
    rcases hj with rfl | rfl
    · refine wpOp_plain rfl rfl ?_
      obtain ⟨Y, X1, eY, ex, NY, LY, gx1⟩ := boxP1 X0 (cell0 z key va v vc fl exp cas del ini mk) 39
      refine oper_value 64 (w' := X1) (v := .slice (some ⟨Y, 0, none⟩) 1 1) rfl (by rw [← eY, ← ex]; unfold cell0; go_simp) ?_
      clear eY ex
      have T1 := gr_trans T0 gx1
      refine ⟨T1, ?_⟩
      simp only [Act.put, List.setIfInBounds_toArray, List.set_cons_zero, List.set_cons_succ]
      refine one_at 5 (by kernel_rfl) rfl rfl ?_
      refine oper_call 68 rfl (by go_simp) (HF.out X1) ?_
      rintro e X2 ⟨ka, kc, rfl, hsu, hnk, gx2⟩
      refine ⟨_, rfl, ?_⟩
      have T2 := gr_trans T1 gx2
      replace NY := (gx2.block Y (Array.getElem?_eq_some_iff.1 NY).1 (by simp)).trans NY
      replace LY := Nat.le_trans T0.size LY
      refine ⟨T2, ?_⟩
      simp only [Act.put, List.setIfInBounds_toArray, List.set_cons_zero, List.set_cons_succ]
      clear gx1 gx2
      refine take_at 6 69 (v := .agg (rqC ⟨[⟨z, key, val, fl, exp, cas, del, ini, mk, false⟩], formP c o key⟩ (some ⟨Y, 0, none⟩) 1 none 0 ka kc)) rfl rfl (by kernel_rfl) (by kernel_rfl) (by kernel_rfl) (fun _ _ _ h => h) (Or.inl ⟨by rfl, fun W hW => by unfold rqC fmC formP; go_simp⟩) T2 ?_
      simp only [Act.put, List.setIfInBounds_toArray, List.set_cons_zero, List.set_cons_succ]
      refine wpAnyH_done (by kernel_rfl) ?_ _
      change wpList _ _ _ _ _ _
      have GX := gr_trans G7.out T2
      have rX := (GX.block R RV.out (by simp)).trans rR.out
      obtain ⟨W9, e9, r9, q9, o9⟩ := rowP1 (rqC ⟨[⟨z, key, val, fl, exp, cas, del, ini, mk, false⟩], formP c o key⟩ (some ⟨Y, 0, none⟩) 1 none 0 ka kc) rX
      have GE := hide (q9 w (gr_trans gV.out GX) wR.out)
      have OF := fun fn tmps p u => reqE_yes (val := val) valF.out r9 o9 (by have h1 := RV.out; have h2 := G7.out.size; omega) NY (OV7.out.turn T2 (fun k h => by cases h)).1 nR.out hsu (fun b o e => by have h0 := hnk b o e; have h1 := RV.out; have h2 := G7.out.size; have h3 := T1.size; omega) GE.out (by have h2 := G7.out.size; have h3 := gV.out.size; omega) nV.out (fun b o e => by have h0 := hnk b o e; have h1 := gV.out.size; have h2 := G7.out.size; have h3 := T1.size; omega) (fn := fn) (tmps := tmps) (p := p) (u := u)
      replace OF := hide OF
      replace rX := hide rX
      replace e9 := hide e9
      clear q9 o9 r9 GX T2 T1 T0 NY LY hsu hnk r7 OV7
      refine wpList_store_row rfl 31 _ _ rfl R (rqC ⟨[⟨z, key, val, fl, exp, cas, del, ini, mk, false⟩], formP c o key⟩ (some ⟨Y, 0, none⟩) 1 none 0 ka kc) rfl rfl _ _ rX.out (req_size _ _ _ _ _ _ _) rfl (req_one _ _ _ _ _ _ _) ?_
      rw [e9.out]
      go_wp2
      exact OF.out _ _ _ _ rfl rfl rfl
    · refine wpOp_plain rfl rfl ?_
      refine oper_call 68 rfl (by go_simp) (HF.out X0) ?_
      rintro e X1 ⟨ka, kc, rfl, hsu, hnk, gx1⟩
      refine ⟨_, rfl, ?_⟩
      have T1 := gr_trans T0 gx1
      refine ⟨T1, ?_⟩
      simp only [Act.put, List.setIfInBounds_toArray, List.set_cons_zero, List.set_cons_succ]
      refine one_at 1 (by kernel_rfl) rfl rfl ?_
      obtain ⟨Y, X2, eY, ex, NY, LY, gx2⟩ := boxP1 X1 (cell0 z key va v vc fl exp cas del ini mk) 39
      refine oper_value 64 (w' := X2) (v := .slice (some ⟨Y, 0, none⟩) 1 1) rfl (by rw [← eY, ← ex]; unfold cell0; go_simp) ?_
      clear eY ex
      have T2 := gr_trans T1 gx2
      replace hsu := hsu.on (below_gr gx2)
      replace LY := Nat.le_trans T1.size LY
      refine ⟨T2, ?_⟩
      simp only [Act.put, List.setIfInBounds_toArray, List.set_cons_zero, List.set_cons_succ]
      clear gx1 gx2
      refine take_at 6 69 (v := .agg (rqC ⟨[⟨z, key, val, fl, exp, cas, del, ini, mk, false⟩], formP c o key⟩ (some ⟨Y, 0, none⟩) 1 none 0 ka kc)) rfl rfl (by kernel_rfl) (by kernel_rfl) (by kernel_rfl) (fun _ _ _ h => h) (Or.inl ⟨by rfl, fun W hW => by unfold rqC fmC formP; go_simp⟩) T2 ?_
      simp only [Act.put, List.setIfInBounds_toArray, List.set_cons_zero, List.set_cons_succ]
      refine wpAnyH_done (by kernel_rfl) ?_ _
      change wpList _ _ _ _ _ _
      have GX := gr_trans G7.out T2
      have rX := (GX.block R RV.out (by simp)).trans rR.out
      obtain ⟨W9, e9, r9, q9, o9⟩ := rowP1 (rqC ⟨[⟨z, key, val, fl, exp, cas, del, ini, mk, false⟩], formP c o key⟩ (some ⟨Y, 0, none⟩) 1 none 0 ka kc) rX
      have GE := hide (q9 w (gr_trans gV.out GX) wR.out)
      have OF := fun fn tmps p u => reqE_yes (val := val) valF.out r9 o9 (by have h1 := RV.out; have h2 := G7.out.size; omega) NY (OV7.out.turn T2 (fun k h => by cases h)).1 nR.out hsu (fun b o e => by have h0 := hnk b o e; have h1 := RV.out; have h2 := G7.out.size; have h3 := T0.size; omega) GE.out (by have h2 := G7.out.size; have h3 := gV.out.size; omega) nV.out (fun b o e => by have h0 := hnk b o e; have h1 := gV.out.size; have h2 := G7.out.size; have h3 := T0.size; omega) (fn := fn) (tmps := tmps) (p := p) (u := u)
      replace OF := hide OF
      replace rX := hide rX
      replace e9 := hide e9
      clear q9 o9 r9 GX T2 T1 T0 NY LY hsu hnk r7 OV7
      refine wpList_store_row rfl 31 _ _ rfl R (rqC ⟨[⟨z, key, val, fl, exp, cas, del, ini, mk, false⟩], formP c o key⟩ (some ⟨Y, 0, none⟩) 1 none 0 ka kc) rfl rfl _ _ rX.out (req_size _ _ _ _ _ _ _) rfl (req_one _ _ _ _ _ _ _) ?_
      rw [e9.out]
      go_wp2
      exact OF.out _ _ _ _ rfl rfl rfl
  · refine wpOp_plain rfl rfl ?_
    obtain ⟨K, W1, eK, ek, N3, LK, gk⟩ := boxP1 W0 zeroCp 39
    refine oper_value 11 (w' := W1) (v := .pointer (some ⟨K, 0, none⟩)) rfl (by rw [← eK, ← ek]; unfold zeroCp; go_simp) ?_
    clear eK ek
    have S1 := gr_trans S0 gk
    refine ⟨S1, ?_⟩
    simp only [Act.put, List.setIfInBounds_toArray, List.set_cons_zero, List.set_cons_succ]
    refine one_at 4 (by kernel_rfl) rfl rfl ?_
    refine oper_call 41 rfl (by go_simp) (HCL.out W1 (gr_trans gV.out (gr_trans G2.out S1))) ?_
    rintro e W3 ⟨va, vc, rfl, hva, gc⟩
    refine ⟨_, rfl, ?_⟩
    have S3 := gr_trans S1 gc
    have OV := off_new (K := K) hva valF.out (Array.getElem?_eq_some_iff.1 N3).1
    have nR := hide (off_new (K := R) hva valF.out (by have h1 := RV.out; have h2 := G2.out.size; have h3 := S1.size; omega)).2
    have nV := hide (off_ge (K := w.heap.size) hva valF.out (by have h1 := gV.out.size; have h2 := G2.out.size; have h3 := S1.size; omega))
    replace N3 := (gc.block K (Array.getElem?_eq_some_iff.1 N3).1 (by simp)).trans N3
    replace LK := Nat.le_trans S0.size LK
    refine ⟨S3, ?_⟩
    simp only [Act.put, List.setIfInBounds_toArray, List.set_cons_zero, List.set_cons_succ]
    refine take_at 7 44 (v := .agg (cell0 z key va v vc 0 0 cas 0 0 false)) rfl rfl (by kernel_rfl) (by kernel_rfl) (by kernel_rfl) (fun _ _ _ h => h) (Or.inl ⟨by rfl, fun W hW => by unfold cell0; go_simp⟩) S3 ?_
    simp only [Act.put, List.setIfInBounds_toArray, List.set_cons_zero, List.set_cons_succ]
    clear gc gk hva S0 S1 HCL
    refine wpAnyH_done (by kernel_rfl) ?_ _
    change wpList _ _ _ _ _ _
    obtain ⟨W4, e4, r4, q4, o4⟩ := rowP1 (cell0 z key va v vc 0 0 cas 0 0 false) N3
    have S4 := q4 w2 S3 LK
    have G4 := gr_trans G2.out S4
    have gW := gr_trans gV.out G4
    have VK : V.heap.size ≤ K := Nat.le_trans G2.out.size LK
    have wK : w.heap.size ≤ K := Nat.le_trans gV.out.size VK
    have gK : g ≠ K := by have := gw.out; omega
    have HX4 := hide (HX.out W4 K va vc r4 (b1.out W4 gW) gK)
    replace e4 := hide e4
    replace N3 := hide N3
    have OV4 := OV.turn (row := some K) (W' := W4) ⟨(by rw [← e4.out]; rfl), (by rw [← e4.out]; rfl), (by rw [← e4.out]; rfl), (by rw [← e4.out, size_setRow]; exact Nat.le_refl _), fun k _ hn => o4 k (fun e => hn (by rw [e]))⟩ (fun k h => (Option.some.inj h).symm)
    have G4' := hide G4
    replace VK := hide VK
    clear q4 o4 S3 S4 LK G4 gW wK gK OV
    refine wpList_store_row rfl 39 _ _ rfl K (cell0 z key va v vc 0 0 cas 0 0 false) rfl rfl _ _ N3.out (c0_size _ _ _ _ _ _ _ _ _ _ _) rfl (c0_one _ _ _ _ _ _ _ _ _ _ _) ?_
    rw [e4.out]
    go_upto_region 12 with (first
      | (go_at_call 35; refine HX4.out.mono ?_; rintro e w5 ⟨rfl, g5, h5⟩; have G5 := hide (gr_new (row := none) G4'.out g5 VK.out); have r5 := hide (h5 rfl); have OV5 := hide (OV4.turn g5 (fun k h => (Option.some.inj h).symm)); clear g5 h5)
      | (refine wpList_load_g rfl 39 _ rfl K rfl _ _ _ _ r5.out Try.underlying39 rfl (c0_size _ _ _ _ _ _ _ _ _ _ _) ?_)
      | (go_at_call 36; refine (HK.out _ va vc).mono ?_; rintro e w6 ⟨rfl, g6⟩; have G6 := hide (gr_trans G5.out g6); have r6 := hide ((g6.block K (Array.getElem?_eq_some_iff.1 r5.out).1 (by simp)).trans r5.out); have OV6 := hide (OV5.out.turn g6 (fun k h => by cases h)); clear g6)
      | (refine wpList_load_g rfl 39 _ rfl K rfl _ _ _ _ r6.out Try.underlying39 rfl (c0_size _ _ _ _ _ _ _ _ _ _ _) ?_)
      | (go_at_call 37; refine (HW.out _ va vc).mono ?_; rintro e w7 ⟨rfl, g7⟩; have G7 := hide (gr_trans G6.out g7); have r7 := hide ((g7.block K (Array.getElem?_eq_some_iff.1 r6.out).1 (by simp)).trans r6.out); have OV7 := hide (OV6.out.turn g7 (fun k h => by cases h)); clear g7))
    clear r5 r6 OV4 OV5 OV6 HX4
    refine region_htail (S := fun W' => w7.grownBy W' none) 7 (by kernel_rfl) (by simp) (by kernel_rfl) ?_
    simp only [List.take_succ_cons, List.take_zero, List.drop_succ_cons, List.drop_zero]
    have T0 : w7.grownBy w7.drew none := gr_of_below (Below.drew (Below.refl _ _))
    generalize w7.drew = X0 at *
    refine take_at 0 63 (v := .agg (cell0 z key va v vc fl exp cas del ini mk)) rfl rfl (by kernel_rfl) (by kernel_rfl) (by kernel_rfl) (fun _ _ _ h => h) (Or.inl ⟨by rfl, fun W hW => run_load_rowP 39 _ rfl K rfl ((hW.block K (Array.getElem?_eq_some_iff.1 r7.out).1 (by simp)).trans r7.out) Try.underlying39 rfl (c0_size _ _ _ _ _ _ _ _ _ _ _)⟩) T0 ?_
    simp only [Act.put, List.setIfInBounds_toArray, List.set_cons_zero, List.set_cons_succ]
    refine take_at 2 65 (v := .agg (hdC c (k : Int) (x : Int) o cas)) rfl rfl (by kernel_rfl) (by kernel_rfl) (by kernel_rfl) (fun _ _ _ h => h) (Or.inl ⟨by rfl, fun W hW => run_load_rowP 54 _ rfl B rfl (((gr_trans G7.out hW).block B BV.out (by simp)).trans rB.out) Try.underlying54 rfl (hd_size _ _ _ _ _)⟩) T0 ?_
    simp only [Act.put, List.setIfInBounds_toArray, List.set_cons_zero, List.set_cons_succ]
    refine take_at 3 66 (v := .pointer (some ⟨K, 1, none⟩)) rfl rfl (by kernel_rfl) (by kernel_rfl) (by kernel_rfl) (fun _ _ _ h => h) (Or.inl ⟨by rfl, fun W hW => by go_simp⟩) T0 ?_
    simp only [Act.put, List.setIfInBounds_toArray, List.set_cons_zero, List.set_cons_succ]
    refine take_at 4 67 (v := .string key) rfl rfl (by kernel_rfl) (by kernel_rfl) (by kernel_rfl) (fun _ _ _ h => h) (Or.inl ⟨by rfl, fun W hW => by have e := (hW.block K (Array.getElem?_eq_some_iff.1 r7.out).1 (by simp)).trans r7.out; have cc : W.cell? ⟨K, 1, none⟩ = some (.string key) := (by unfold World.cell?; rw [e]; rfl); clear e; go_simp⟩) T0 ?_
    simp only [Act.put, List.setIfInBounds_toArray, List.set_cons_zero, List.set_cons_succ]
    refine wpAnyH_all (rs := [1, 5]) (by kernel_rfl) (by simp) fun j hj => ?_
    simp only [List.mem_cons, List.not_mem_nil, or_false] at hj
    rcases hj with rfl | rfl
    · refine wpOp_plain rfl rfl ?_
      obtain ⟨Y, X1, eY, ex, NY, LY, gx1⟩ := boxP1 X0 (cell0 z key va v vc fl exp cas del ini mk) 39
      refine oper_value 64 (w' := X1) (v := .slice (some ⟨Y, 0, none⟩) 1 1) rfl (by rw [← eY, ← ex]; unfold cell0; go_simp) ?_
      clear eY ex
      have T1 := gr_trans T0 gx1
      refine ⟨T1, ?_⟩
      simp only [Act.put, List.setIfInBounds_toArray, List.set_cons_zero, List.set_cons_succ]
      refine one_at 5 (by kernel_rfl) rfl rfl ?_
      refine oper_call 68 rfl (by go_simp) (HF.out X1) ?_
      rintro e X2 ⟨ka, kc, rfl, hsu, hnk, gx2⟩
      refine ⟨_, rfl, ?_⟩
      have T2 := gr_trans T1 gx2
      replace NY := (gx2.block Y (Array.getElem?_eq_some_iff.1 NY).1 (by simp)).trans NY
      replace LY := Nat.le_trans T0.size LY
      refine ⟨T2, ?_⟩
      simp only [Act.put, List.setIfInBounds_toArray, List.set_cons_zero, List.set_cons_succ]
      clear gx1 gx2
      refine take_at 6 69 (v := .agg (rqC ⟨[⟨z, key, val, fl, exp, cas, del, ini, mk, false⟩], formP c o key⟩ (some ⟨Y, 0, none⟩) 1 none 0 ka kc)) rfl rfl (by kernel_rfl) (by kernel_rfl) (by kernel_rfl) (fun _ _ _ h => h) (Or.inl ⟨by rfl, fun W hW => by unfold rqC fmC formP; go_simp⟩) T2 ?_
      simp only [Act.put, List.setIfInBounds_toArray, List.set_cons_zero, List.set_cons_succ]
      refine wpAnyH_done (by kernel_rfl) ?_ _
      change wpList _ _ _ _ _ _
      have GX := gr_trans G7.out T2
      have rX := (GX.block R RV.out (by simp)).trans rR.out
      obtain ⟨W9, e9, r9, q9, o9⟩ := rowP1 (rqC ⟨[⟨z, key, val, fl, exp, cas, del, ini, mk, false⟩], formP c o key⟩ (some ⟨Y, 0, none⟩) 1 none 0 ka kc) rX
      have GE := hide (q9 w (gr_trans gV.out GX) wR.out)
      have OF := fun fn tmps p u => reqE_yes (val := val) valF.out r9 o9 (by have h1 := RV.out; have h2 := G7.out.size; omega) NY (OV7.out.turn T2 (fun k h => by cases h)).1 nR.out hsu (fun b o e => by have h0 := hnk b o e; have h1 := RV.out; have h2 := G7.out.size; have h3 := T1.size; omega) GE.out (by have h2 := G7.out.size; have h3 := gV.out.size; omega) nV.out (fun b o e => by have h0 := hnk b o e; have h1 := gV.out.size; have h2 := G7.out.size; have h3 := T1.size; omega) (fn := fn) (tmps := tmps) (p := p) (u := u)
      replace OF := hide OF
      replace rX := hide rX
      replace e9 := hide e9
      clear q9 o9 r9 GX T2 T1 T0 NY LY hsu hnk r7 OV7
      refine wpList_store_row rfl 31 _ _ rfl R (rqC ⟨[⟨z, key, val, fl, exp, cas, del, ini, mk, false⟩], formP c o key⟩ (some ⟨Y, 0, none⟩) 1 none 0 ka kc) rfl rfl _ _ rX.out (req_size _ _ _ _ _ _ _) rfl (req_one _ _ _ _ _ _ _) ?_
      rw [e9.out]
      go_wp2
      exact OF.out _ _ _ _ rfl rfl rfl
    · refine wpOp_plain rfl rfl ?_
      refine oper_call 68 rfl (by go_simp) (HF.out X0) ?_
      rintro e X1 ⟨ka, kc, rfl, hsu, hnk, gx1⟩
      refine ⟨_, rfl, ?_⟩
      have T1 := gr_trans T0 gx1
      refine ⟨T1, ?_⟩
      simp only [Act.put, List.setIfInBounds_toArray, List.set_cons_zero, List.set_cons_succ]
      refine one_at 1 (by kernel_rfl) rfl rfl ?_
      obtain ⟨Y, X2, eY, ex, NY, LY, gx2⟩ := boxP1 X1 (cell0 z key va v vc fl exp cas del ini mk) 39
      refine oper_value 64 (w' := X2) (v := .slice (some ⟨Y, 0, none⟩) 1 1) rfl (by rw [← eY, ← ex]; unfold cell0; go_simp) ?_
      clear eY ex
      have T2 := gr_trans T1 gx2
      replace hsu := hsu.on (below_gr gx2)
      replace LY := Nat.le_trans T1.size LY
      refine ⟨T2, ?_⟩
      simp only [Act.put, List.setIfInBounds_toArray, List.set_cons_zero, List.set_cons_succ]
      clear gx1 gx2
      refine take_at 6 69 (v := .agg (rqC ⟨[⟨z, key, val, fl, exp, cas, del, ini, mk, false⟩], formP c o key⟩ (some ⟨Y, 0, none⟩) 1 none 0 ka kc)) rfl rfl (by kernel_rfl) (by kernel_rfl) (by kernel_rfl) (fun _ _ _ h => h) (Or.inl ⟨by rfl, fun W hW => by unfold rqC fmC formP; go_simp⟩) T2 ?_
      simp only [Act.put, List.setIfInBounds_toArray, List.set_cons_zero, List.set_cons_succ]
      refine wpAnyH_done (by kernel_rfl) ?_ _
      change wpList _ _ _ _ _ _
      have GX := gr_trans G7.out T2
      have rX := (GX.block R RV.out (by simp)).trans rR.out
      obtain ⟨W9, e9, r9, q9, o9⟩ := rowP1 (rqC ⟨[⟨z, key, val, fl, exp, cas, del, ini, mk, false⟩], formP c o key⟩ (some ⟨Y, 0, none⟩) 1 none 0 ka kc) rX
      have GE := hide (q9 w (gr_trans gV.out GX) wR.out)
      have OF := fun fn tmps p u => reqE_yes (val := val) valF.out r9 o9 (by have h1 := RV.out; have h2 := G7.out.size; omega) NY (OV7.out.turn T2 (fun k h => by cases h)).1 nR.out hsu (fun b o e => by have h0 := hnk b o e; have h1 := RV.out; have h2 := G7.out.size; have h3 := T0.size; omega) GE.out (by have h2 := G7.out.size; have h3 := gV.out.size; omega) nV.out (fun b o e => by have h0 := hnk b o e; have h1 := gV.out.size; have h2 := G7.out.size; have h3 := T0.size; omega) (fn := fn) (tmps := tmps) (p := p) (u := u)
      replace OF := hide OF
      replace rX := hide rX
      replace e9 := hide e9
      clear q9 o9 r9 GX T2 T1 T0 NY LY hsu hnk r7 OV7
      refine wpList_store_row rfl 31 _ _ rfl R (rqC ⟨[⟨z, key, val, fl, exp, cas, del, ini, mk, false⟩], formP c o key⟩ (some ⟨Y, 0, none⟩) 1 none 0 ka kc) rfl rfl _ _ rX.out (req_size _ _ _ _ _ _ _) rfl (req_one _ _ _ _ _ _ _) ?_
      rw [e9.out]
      go_wp2
      exact OF.out _ _ _ _ rfl rfl rfl
end
end Go.Proofs.Ytegaljpllcgaaaa
