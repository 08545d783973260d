/- What Parse of the binary dialect says, and package binin's Parse. Conditions: at most 100000 bytes. -/
import Derived.Test.YtegaljpllcgaaaaBinPReqG
import Derived.Test.YtegaljpllcgaaaaBinPRef
namespace Go.Proofs.Ytegaljpllcgaaaa
set_option linter.unusedVariables false
open Go.RowKit Go.Shelf

def by1 (b : List UInt8) : Int := ((b.getD 1 0).toNat : Int)
def by4 (b : List UInt8) : Int := ((b.getD 4 0).toNat : Int)
/-- The status of a head. -/
def stB (b : List UInt8) : Int := statusN (ofN (by1 b)) (by4 b) (getB b 2 2) (getB b 8 4)
/-- What the first bytes of a connection of the binary dialect are. -/
def parse16 (b : List UInt8) : Sv :=
  if (measN b).2 ≠ 0 then bareB (measN b).2
  else if stB b ≠ 0 then faultB (by1 b) (stB b) (getB b 12 4) (24 + getB b 8 4)
  else reqB (by1 b) (getB b 12 4) b (by4 b).toNat (getB b 2 2).toNat (getB b 8 4 - by4 b - getB b 2 2).toNat
theorem cmdB_op (r : R5) (x : List UInt8) : (cmdB r x).op = r.op ∧ (cmdB r x).sets = false := by
  unfold cmdB
  repeat' split
  all_goals exact ⟨rfl, rfl⟩
theorem reqB_eq {c o : Int} {b : List UInt8} {x k v l : Nat} (hl : l = x + k + v) (hb : 24 + l ≤ b.length) (hv : (ofN c).val = false → v = 0) : (reqB c o b x k v).req = reqP c o (getB b 16 8) ((b.drop 24).take l) x k v := by
  have e1 : ((b.drop 24).take l).take x = (b.drop 24).take x := by rw [List.take_take, Nat.min_eq_left (by omega)]
  have e2 : (((b.drop 24).take l).drop x).take k = (b.drop (24 + x)).take k := by rw [List.drop_take, List.drop_drop, List.take_take, Nat.min_eq_left (by omega)]
  have e3 : (((b.drop 24).take l).drop (x + k)).take v = (b.drop (24 + x + k)).take v := by rw [List.drop_take, List.drop_drop, List.take_take, Nat.min_eq_left (by omega), Nat.add_assoc]
  have e4 : (if (ofN c).val then (b.drop (24 + x + k)).take v else []) = (b.drop (24 + x + k)).take v := by
    cases h : (ofN c).val with
    | true => rfl
    | false => rw [hv h]; rfl
  have e5 : ((b.drop (24 + x)).take k).length = k := by rw [List.length_take, List.length_drop]; omega
  have e6 : formQ c o (ofN c).quiet ⟨((b.drop (24 + x)).take k).toArray⟩ k = formP c o ⟨((b.drop (24 + x)).take k).toArray⟩ := by
    unfold formQ formP
    rw [empty_k e5]
    by_cases h : k = 0
    · rw [if_pos h, if_pos (by simp [h])]
    · rw [if_neg h, if_neg (by simp [h])]
  unfold reqB reqP cmdP cmdQ
  rw [e1, e2, e3, e4, e6]
  have h := cmdB_op (ofN c) ((b.drop 24).take x)
  generalize cmdB (ofN c) ((b.drop 24).take x) = cc at *
  obtain ⟨a1, a2, a3, a4, a5, a6, a7, a8, a9, a10⟩ := cc
  obtain ⟨h1, h2⟩ := h
  simp only [] at h1 h2
  subst h1 h2
  rfl
theorem meas_cases (b : List UInt8) : measN b = (0, 3) ∨ measN b = (0, 9) ∨ (measN b = (24 + getB b 8 4, 0) ∧ 24 ≤ b.length ∧ ((b.getD 0 0).toNat : Int) = 128 ∧ getB b 8 4 ≤ 2048 ∧ 24 + getB b 8 4 ≤ (b.length : Int)) := by
  unfold measN
  by_cases h1 : b.length = 0
  · rw [if_pos h1]; exact .inl rfl
  rw [if_neg h1]
  by_cases h2 : ((b.getD 0 0).toNat : Int) ≠ 128
  · rw [if_pos h2]; exact .inr (.inl rfl)
  rw [if_neg h2]
  by_cases h3 : b.length < 24
  · rw [if_pos h3]; exact .inl rfl
  rw [if_neg h3]
  by_cases h4 : 2048 < getB b 8 4
  · rw [if_pos h4]; exact .inr (.inl rfl)
  rw [if_neg h4]
  by_cases h5 : (b.length : Int) < 24 + getB b 8 4
  · rw [if_pos h5]; exact .inl rfl
  rw [if_neg h5]
  exact .inr (.inr ⟨rfl, by omega, by omega, by omega, by omega⟩)
theorem status_bd {r : R5} {x k l : Int} : statusN r x k l = 0 ∨ statusN r x k l = 3 ∨ statusN r x k l = 4 ∨ statusN r x k l = 129 := by
  unfold statusN
  repeat' split
  all_goals simp
theorem store_at {P : Program} {md : Region.Mode} {ops : Array Oper} {Q : Exit → Act → World → Prop} {S : World → Prop} (i : Nat) {o : Oper} {fuel : Nat} {listed : Array Bool} {a : Act} {w : World} (hr : Region.ready md ops listed = [i]) (ho : ops[i]? = some o) (hg : o.guard = none) (hd : o.dst = none)
    (ty : TypeId) (x y : Operand) (hop : o.op = .store ty x y) (g : Nat) (cells : Array Value) (hx : a.eval x = .pointer (some ⟨g, 0, none⟩)) (hy : a.eval y = .agg cells) (t : TypeId) (old : Array Value) (hgp : w.heap[g]? = some (.cells old t (0, 0))) (hi : (P.info? ty).map (·.size) = some cells.size)
    (hold : old.size = cells.size) (h1 : cells.all (·.oneCell') = true) (hS : S (w.setRow g cells)) (h : wpAnyH P md ops Q S fuel (listed.setIfInBounds i true) a (w.setRow g cells)) : wpAnyH P md ops Q S (fuel + 1) listed a w :=
  one_at i hr ho hg (wp_store_row ty x y hop g cells hx hy t old hgp hi hold h1 (by rw [hd]; exact ⟨hS, h⟩))
def stepNo : Array Value := stC noS none 0 none 0 none 0
theorem stepNo_eq : stepNo = #[.slice none 0 0, .int .i64 0, .string ⟨#[]⟩, .int .i64 0, .int .u32 0, .bool false, .bool false, .string ⟨#[]⟩, .slice none 0 0, .slice none 0 0, .bool false, .string ⟨#[]⟩, .int .i64 0, .int .i64 0, .bool false, .int .i64 0] := rfl
section
variable {w : World} {g off len cap : Nat} {b : List UInt8}
set_option maxRecDepth 100000 in
set_option maxHeartbeats 4000000 in
theorem par_bare {a : Option Addr} {y : Int} (hy : y ≠ 0) (hm : ∀ W : World, w.grownBy W none → Calls Try.prog 18 #[.slice a len cap] W fun e w' => e = .returned (.tuple #[.int .i64 0, .int .i64 y]) ∧ w' = W) :
    Calls Try.prog 11 #[.slice a len cap] w fun e w' => BinE (bareB y) w e w' := by
  have HM := hide hm
  have zy : (y == 0) = false := by rw [beq_eq_false_iff_ne]; exact hy
  have zn : (y != 0) = true := by simpa using hy
  clear hm hy
  obtain ⟨V, hV⟩ : ∃ V, V = w.alloc (.cells stepNo 34) := ⟨_, rfl⟩
  obtain ⟨R, hR⟩ : ∃ R, R = w.heap.size := ⟨_, rfl⟩
  have gV : w.grownBy V none := by rw [hV]; exact World.grownBy_alloc _ _ _
  have rR : V.heap[R]? = some (.cells stepNo 34 (0, 0)) := by rw [hV, hR]; exact World.alloc_heap_new w _
  obtain ⟨W9, e9, r9, q9, o9⟩ := rowP1 (stC (bareB y) none 0 none 0 none 0) rR
  have GE := hide (q9 w gV (Nat.le_of_eq hR.symm))
  replace gV := hide gV
  replace rR := hide rR
  replace r9 := hide r9
  replace e9 := hide e9
  clear q9 o9
  simp only [stepNo_eq] at hV
  go_enter Try.func11, Try.ntmps11
  go_upto_region 1 with fail
  rw [← hV, ← hR]
  clear hV hR
  go_wp2_with (first
    | (go_at_call 18; refine (HM.out _ gV.out).mono ?_; rintro e w1 ⟨rfl, hw1⟩; rw [hw1]; clear hw1)
    | (refine wpList_store_row rfl 34 _ _ rfl R (stC (bareB y) none 0 none 0 none 0) rfl rfl _ _ rR.out (step_size _ _ _ _ _ _ _) rfl (step_one _ _ _ _ _ _ _) ?_; rw [e9.out]))
  exact binE_ret (g := R) (ca := none) (cc := 0) (ta := none) (tc := 0) (ka := none) (kc := 0) rfl r9.out rfl (QAt.none_ _) GE.out
/-- What a whole request's walk is told. -/
structure ParH (w : World) (g off len cap : Nat) (b : List UInt8) (c k x o s : Int) (l : Nat) (o2 : Nat) (bd : List UInt8) : Prop where
  gw : g < w.heap.size
  c24 : 24 ≤ cap
  lm : l ≤ 2048
  hm : ∀ W : World, w.grownBy W none → Calls Try.prog 18 #[.slice (some ⟨g, off, none⟩) len cap] W fun e w' => e = .returned (.tuple #[.int .i64 (24 + (l : Int)), .int .i64 0]) ∧ w' = W
  hr : ∀ W : World, w.grownBy W none → Calls Try.prog 19 #[.slice (some ⟨g, off, none⟩) 24 24] W fun e w' => e = .returned (.agg (hdC c k x o s)) ∧ W.grownBy w' none
  sl : ∀ W : World, (Instr.sliceAt 22 (.slice (some ⟨g, off, none⟩) len cap) (some (.int .i64 24)) (some (.int .i64 (24 + (l : Int)))) (some (.int .i64 (24 + (l : Int))))).run Try.prog W = .ok (.slice (some ⟨g, o2, none⟩) l l) W
  hq : ∀ W : World, w.grownBy W none → Bu W (some ⟨g, o2, none⟩) l l bd
set_option maxRecDepth 100000 in
set_option maxHeartbeats 16000000 in
theorem par_F {c k x o s st : Int} {l o2 : Nat} {bd : List UInt8} (H : ParH w g off len cap b c k x o s l o2 bd) (hst : st = 3 ∨ st = 4 ∨ st = 129) (c0 : 0 ≤ c) (c1 : c ≤ 255) (o0 : 0 ≤ o) (o1 : o < 4294967296)
    (hR : ∀ W : World, w.grownBy W none → Calls Try.prog 20 #[.agg (hdC c k x o s), .slice (some ⟨g, o2, none⟩) l l] W fun e w' => ReqE noQ st W e w') :
    Calls Try.prog 11 #[.slice (some ⟨g, off, none⟩) len cap] w fun e w' => BinE (faultB c st o (24 + (l : Int))) w e w' := by
  have HM := hide H.hm
  have HH := hide H.hr
  have HR := hide hR
  have SL := hide H.sl
  have c24 : (24 : Int) ≤ (cap : Int) := by have := H.c24; omega
  have zs : (st == 0) = false := by rw [beq_eq_false_iff_ne]; omega
  have zn : (st != 0) = true := by simpa using (show ¬ st = 0 by omega)
  have HF := hide (fun (W : World) => prefuse_any (w := W) (c := c) (k := k) (x := x) (o := o) (cas := s) (s := st) c0 c1 (by omega) (by omega) o0 o1)
  clear H hR hst c0 c1 o0 o1
  obtain ⟨V, hV⟩ : ∃ V, V = w.alloc (.cells stepNo 34) := ⟨_, rfl⟩
  obtain ⟨R, hR_⟩ : ∃ R, R = w.heap.size := ⟨_, rfl⟩
  have gV : w.grownBy V none := by rw [hV]; exact World.grownBy_alloc _ _ _
  have rR : V.heap[R]? = some (.cells stepNo 34 (0, 0)) := by rw [hV, hR_]; exact World.alloc_heap_new w _
  have RV := hide (Array.getElem?_eq_some_iff.1 rR).1
  have wR := hide (show w.heap.size ≤ R from Nat.le_of_eq hR_.symm)
  replace gV := hide gV
  replace rR := hide rR
  simp only [stepNo_eq] at hV
  go_enter Try.func11, Try.ntmps11
  go_upto_region 1 with fail
  rw [← hV, ← hR_]
  clear hV hR_
  go_upto_region 5 with (first
    | (go_at_call 18; refine (HM.out _ gV.out).mono ?_; rintro e w1 ⟨rfl, hw1⟩; rw [hw1]; clear hw1)
    | (go_at_call 19; refine (HH.out _ gV.out).mono ?_; rintro e w2 ⟨rfl, g2⟩
       obtain ⟨T, W2, eT, e2, NT, LT, gt⟩ := boxP1 w2 (hdC 0 0 0 0 0) 54
       obtain ⟨W3, e3, r3, q3, o3⟩ := rowP1 (hdC c k x o s) NT
       have G3 := hide (q3 V (gr_trans g2 gt) (Nat.le_trans g2.size LT))
       simp only [hdC] at e2
       replace NT := hide NT; replace r3 := hide r3; replace e3 := hide e3; clear q3 o3 g2 gt LT)
    | (refine wpList_store_row rfl 54 _ _ rfl T (hdC c k x o s) rfl rfl _ _ NT.out (hd_size _ _ _ _ _) rfl (hd_one _ _ _ _ _) ?_; rw [e3.out]))
  clear HM HH
  refine wp_region_held (S := fun W' => W3.grownBy W' none) (by kernel_rfl) ?_
  have S0 : W3.grownBy W3.drew none := gr_of_below (Below.drew (Below.refl _ _))
  rw [show ({ W3 with drawn := W3.drawn + 1 } : World) = W3.drew from rfl]
  generalize W3.drew = X0 at *
  refine take_at 0 21 (v := .agg (hdC c k x o s)) rfl rfl (by kernel_rfl) (by kernel_rfl) (by kernel_rfl) (fun _ _ _ h => h) (Or.inl ⟨by rfl, fun W hW => run_load_rowP 54 _ rfl T rfl ((hW.block T (Array.getElem?_eq_some_iff.1 r3.out).1 (by simp)).trans r3.out) Try.underlying54 rfl (hd_size _ _ _ _ _)⟩) S0 ?_
  simp only [Act.put, List.setIfInBounds_toArray, List.set_cons_zero, List.set_cons_succ]
  refine take_at 1 22 (v := .slice (some ⟨g, off, none⟩) len cap) rfl rfl (by kernel_rfl) (by kernel_rfl) (by kernel_rfl) (fun _ _ _ h => h) (Or.inl ⟨by rfl, fun W hW => by go_simp⟩) S0 ?_
  simp only [Act.put, List.setIfInBounds_toArray, List.set_cons_zero, List.set_cons_succ]
  refine take_at 2 23 (v := .int .i64 (24 + (l : Int))) rfl rfl (by kernel_rfl) (by kernel_rfl) (by kernel_rfl) (fun _ _ _ h => h) (Or.inl ⟨by rfl, fun W hW => by go_simp⟩) S0 ?_
  simp only [Act.put, List.setIfInBounds_toArray, List.set_cons_zero, List.set_cons_succ]
  refine take_at 3 24 (v := .int .i64 (24 + (l : Int))) rfl rfl (by kernel_rfl) (by kernel_rfl) (by kernel_rfl) (fun _ _ _ h => h) (Or.inl ⟨by rfl, fun W hW => by go_simp⟩) S0 ?_
  simp only [Act.put, List.setIfInBounds_toArray, List.set_cons_zero, List.set_cons_succ]
  refine take_at 4 25 (v := .slice (some ⟨g, o2, none⟩) l l) rfl rfl (by kernel_rfl) (by kernel_rfl) (by kernel_rfl) (fun _ _ _ h => h) (Or.inl ⟨by rfl, fun W hW => run_sub3 22 _ _ _ _ rfl (SL.out W)⟩) S0 ?_
  simp only [Act.put, List.setIfInBounds_toArray, List.set_cons_zero, List.set_cons_succ]
  refine wpAnyH_all (rs := [5, 9]) (by kernel_rfl) (by simp) fun j hj => ?_
  simp only [List.mem_cons, List.not_mem_nil, or_false] at hj
  rcases hj with rfl | rfl
  · refine wpOp_plain rfl rfl ?_
    refine oper_call 26 rfl (by go_simp) (HR.out X0 (gr_trans gV.out (gr_trans G3.out S0))) ?_
    rintro e X1 ⟨ca, cc, ta, tc, ka, kc, rfl, hq, gc⟩
    refine ⟨_, rfl, ?_⟩
    have S1 := gr_trans S0 gc
    refine ⟨S1, ?_⟩
    simp only [Act.put, List.setIfInBounds_toArray, List.set_cons_zero, List.set_cons_succ]
    refine take_at 6 20 (v := .tuple #[.agg (rqC noQ ca cc ta tc ka kc), .int .u16 st]) rfl rfl (by kernel_rfl) (by kernel_rfl) (by kernel_rfl) (fun _ _ _ h => h) (Or.inl ⟨by rfl, fun W hW => by go_simp⟩) S1 ?_
    simp only [Act.put, List.setIfInBounds_toArray, List.set_cons_zero, List.set_cons_succ]
    refine take_at 7 27 (v := .agg (rqC noQ ca cc ta tc ka kc)) rfl rfl (by kernel_rfl) (by kernel_rfl) (by kernel_rfl) (fun _ _ _ h => h) (Or.inl ⟨by rfl, fun W hW => by go_simp⟩) S1 ?_
    simp only [Act.put, List.setIfInBounds_toArray, List.set_cons_zero, List.set_cons_succ]
    refine take_at 8 28 (v := .int .u16 st) rfl rfl (by kernel_rfl) (by kernel_rfl) (by kernel_rfl) (fun _ _ _ h => h) (Or.inl ⟨by rfl, fun W hW => by go_simp⟩) S1 ?_
    simp only [Act.put, List.setIfInBounds_toArray, List.set_cons_zero, List.set_cons_succ]
    refine one_at 9 (by kernel_rfl) rfl rfl ?_
    obtain ⟨Q, X2, eQ, eq, NQ, LQ, gq⟩ := boxP1 X1 noRow 31
    refine oper_value 6 (w' := X2) (v := .pointer (some ⟨Q, 0, none⟩)) rfl (by rw [← eQ, ← eq]; simp only [noRow_eq]; go_simp) ?_
    clear eQ eq
    have S2 := gr_trans S1 gq
    replace LQ := Nat.le_trans S1.size LQ
    refine ⟨S2, ?_⟩
    simp only [Act.put, List.setIfInBounds_toArray, List.set_cons_zero, List.set_cons_succ]
    obtain ⟨X4, e4, r4, q4, o4⟩ := rowP1 (rqC noQ ca cc ta tc ka kc) NQ
    have S4 := hide (q4 W3 S2 LQ)
    have G4 := gr_trans G3.out (q4 W3 S2 LQ)
    have r34 := ((q4 W3 S2 LQ).block T (Array.getElem?_eq_some_iff.1 r3.out).1 (by simp)).trans r3.out
    have rR4 := (G4.block R RV.out (by simp)).trans rR.out
    replace G4 := hide G4
    replace r34 := hide r34
    replace e4 := hide e4
    replace NQ := hide NQ
    clear q4 o4 r4 hq gc gq LQ S0 S1 S2 rR4
    refine store_at 10 (by kernel_rfl) rfl rfl rfl 31 _ _ rfl Q (rqC noQ ca cc ta tc ka kc) rfl rfl _ _ NQ.out (req_size _ _ _ _ _ _ _) rfl (req_one _ _ _ _ _ _ _) (by rw [e4.out]; exact S4.out) ?_
    rw [e4.out]
    refine take_at 11 7 (v := .int .u16 st) rfl rfl (by kernel_rfl) (by kernel_rfl) (by kernel_rfl) (fun _ _ _ h => h) (Or.inl ⟨by rfl, fun W hW => by go_simp⟩) S4.out ?_
    simp only [Act.put, List.setIfInBounds_toArray, List.set_cons_zero, List.set_cons_succ]
    refine wpAnyH_done (by kernel_rfl) ?_ _
    simp only [Exit.then]
    go_wp2_with (first
      | (refine wpList_load_row rfl 54 _ rfl T rfl _ _ _ _ r34.out Try.underlying54 rfl (hd_size _ _ _ _ _) ?_)
      | (go_at_call 21; refine (HF.out _).mono ?_; rintro e X5 ⟨rfl, g5⟩
         have G5 := gr_trans G4.out g5
         have rR5 := (G5.block R RV.out (by simp)).trans rR.out
         obtain ⟨X9, e9, r9, q9, o9⟩ := rowP1 (stC (faultB c st o (24 + (l : Int))) none 0 none 0 none 0) rR5
         have GE := hide (q9 w (gr_trans gV.out G5) wR.out)
         replace e9 := hide e9; replace r9 := hide r9; replace rR5 := hide rR5; clear q9 o9 g5 G5)
      | (refine wpList_store_row rfl 34 _ _ rfl R (stC (faultB c st o (24 + (l : Int))) none 0 none 0 none 0) rfl rfl _ _ rR5.out (step_size _ _ _ _ _ _ _) rfl (step_one _ _ _ _ _ _ _) ?_; rw [e9.out]))
    exact binE_ret (g := R) (ca := none) (cc := 0) (ta := none) (tc := 0) (ka := none) (kc := 0) rfl r9.out rfl (QAt.none_ _) GE.out
  · refine wpOp_plain rfl rfl ?_
    obtain ⟨Q, X1, eQ, eq, NQ, LQ, gq⟩ := boxP1 X0 noRow 31
    refine oper_value 6 (w' := X1) (v := .pointer (some ⟨Q, 0, none⟩)) rfl (by rw [← eQ, ← eq]; simp only [noRow_eq]; go_simp) ?_
    clear eQ eq
    have S1 := gr_trans S0 gq
    refine ⟨S1, ?_⟩
    simp only [Act.put, List.setIfInBounds_toArray, List.set_cons_zero, List.set_cons_succ]
    refine one_at 5 (by kernel_rfl) rfl rfl ?_
    refine oper_call 26 rfl (by go_simp) (HR.out X1 (gr_trans gV.out (gr_trans G3.out S1))) ?_
    rintro e X2 ⟨ca, cc, ta, tc, ka, kc, rfl, hq, gc⟩
    refine ⟨_, rfl, ?_⟩
    have S2 := gr_trans S1 gc
    replace NQ := (gc.block Q (Array.getElem?_eq_some_iff.1 NQ).1 (by simp)).trans NQ
    replace LQ := Nat.le_trans S0.size LQ
    refine ⟨S2, ?_⟩
    simp only [Act.put, List.setIfInBounds_toArray, List.set_cons_zero, List.set_cons_succ]
    refine take_at 6 20 (v := .tuple #[.agg (rqC noQ ca cc ta tc ka kc), .int .u16 st]) rfl rfl (by kernel_rfl) (by kernel_rfl) (by kernel_rfl) (fun _ _ _ h => h) (Or.inl ⟨by rfl, fun W hW => by go_simp⟩) S2 ?_
    simp only [Act.put, List.setIfInBounds_toArray, List.set_cons_zero, List.set_cons_succ]
    refine take_at 7 27 (v := .agg (rqC noQ ca cc ta tc ka kc)) rfl rfl (by kernel_rfl) (by kernel_rfl) (by kernel_rfl) (fun _ _ _ h => h) (Or.inl ⟨by rfl, fun W hW => by go_simp⟩) S2 ?_
    simp only [Act.put, List.setIfInBounds_toArray, List.set_cons_zero, List.set_cons_succ]
    refine take_at 8 28 (v := .int .u16 st) rfl rfl (by kernel_rfl) (by kernel_rfl) (by kernel_rfl) (fun _ _ _ h => h) (Or.inl ⟨by rfl, fun W hW => by go_simp⟩) S2 ?_
    simp only [Act.put, List.setIfInBounds_toArray, List.set_cons_zero, List.set_cons_succ]
    obtain ⟨X4, e4, r4, q4, o4⟩ := rowP1 (rqC noQ ca cc ta tc ka kc) NQ
    have S4 := hide (q4 W3 S2 LQ)
    have G4 := gr_trans G3.out (q4 W3 S2 LQ)
    have r34 := ((q4 W3 S2 LQ).block T (Array.getElem?_eq_some_iff.1 r3.out).1 (by simp)).trans r3.out
    have rR4 := (G4.block R RV.out (by simp)).trans rR.out
    replace G4 := hide G4
    replace r34 := hide r34
    replace e4 := hide e4
    replace NQ := hide NQ
    clear q4 o4 r4 hq gc gq LQ S0 S1 S2 rR4
    refine store_at 10 (by kernel_rfl) rfl rfl rfl 31 _ _ rfl Q (rqC noQ ca cc ta tc ka kc) rfl rfl _ _ NQ.out (req_size _ _ _ _ _ _ _) rfl (req_one _ _ _ _ _ _ _) (by rw [e4.out]; exact S4.out) ?_
    rw [e4.out]
    refine take_at 11 7 (v := .int .u16 st) rfl rfl (by kernel_rfl) (by kernel_rfl) (by kernel_rfl) (fun _ _ _ h => h) (Or.inl ⟨by rfl, fun W hW => by go_simp⟩) S4.out ?_
    simp only [Act.put, List.setIfInBounds_toArray, List.set_cons_zero, List.set_cons_succ]
    refine wpAnyH_done (by kernel_rfl) ?_ _
    simp only [Exit.then]
    go_wp2_with (first
      | (refine wpList_load_row rfl 54 _ rfl T rfl _ _ _ _ r34.out Try.underlying54 rfl (hd_size _ _ _ _ _) ?_)
      | (go_at_call 21; refine (HF.out _).mono ?_; rintro e X5 ⟨rfl, g5⟩
         have G5 := gr_trans G4.out g5
         have rR5 := (G5.block R RV.out (by simp)).trans rR.out
         obtain ⟨X9, e9, r9, q9, o9⟩ := rowP1 (stC (faultB c st o (24 + (l : Int))) none 0 none 0 none 0) rR5
         have GE := hide (q9 w (gr_trans gV.out G5) wR.out)
         replace e9 := hide e9; replace r9 := hide r9; replace rR5 := hide rR5; clear q9 o9 g5 G5)
      | (refine wpList_store_row rfl 34 _ _ rfl R (stC (faultB c st o (24 + (l : Int))) none 0 none 0 none 0) rfl rfl _ _ rR5.out (step_size _ _ _ _ _ _ _) rfl (step_one _ _ _ _ _ _ _) ?_; rw [e9.out]))
    exact binE_ret (g := R) (ca := none) (cc := 0) (ta := none) (tc := 0) (ka := none) (kc := 0) rfl r9.out rfl (QAt.none_ _) GE.out
set_option maxRecDepth 100000 in
set_option maxHeartbeats 16000000 in
theorem par_Q {c k x o s : Int} {l o2 : Nat} {bd : List UInt8} {q : Qv} (H : ParH w g off len cap b c k x o s l o2 bd)
    (hR : ∀ W : World, w.grownBy W none → Calls Try.prog 20 #[.agg (hdC c k x o s), .slice (some ⟨g, o2, none⟩) l l] W fun e w' => ReqE q 0 W e w') :
    Calls Try.prog 11 #[.slice (some ⟨g, off, none⟩) len cap] w fun e w' => BinE (⟨q, ⟨#[]⟩, 24 + (l : Int), 0, false, 0⟩) w e w' := by
  have HM := hide H.hm
  have HH := hide H.hr
  have HR := hide hR
  have SL := hide H.sl
  have c24 : (24 : Int) ≤ (cap : Int) := by have := H.c24; omega
  clear H hR
  obtain ⟨V, hV⟩ : ∃ V, V = w.alloc (.cells stepNo 34) := ⟨_, rfl⟩
  obtain ⟨R, hR_⟩ : ∃ R, R = w.heap.size := ⟨_, rfl⟩
  have gV : w.grownBy V none := by rw [hV]; exact World.grownBy_alloc _ _ _
  have rR : V.heap[R]? = some (.cells stepNo 34 (0, 0)) := by rw [hV, hR_]; exact World.alloc_heap_new w _
  have RV := hide (Array.getElem?_eq_some_iff.1 rR).1
  have wR := hide (show w.heap.size ≤ R from Nat.le_of_eq hR_.symm)
  replace gV := hide gV
  replace rR := hide rR
  simp only [stepNo_eq] at hV
  go_enter Try.func11, Try.ntmps11
  go_upto_region 1 with fail
  rw [← hV, ← hR_]
  clear hV hR_
  go_upto_region 5 with (first
    | (go_at_call 18; refine (HM.out _ gV.out).mono ?_; rintro e w1 ⟨rfl, hw1⟩; rw [hw1]; clear hw1)
    | (go_at_call 19; refine (HH.out _ gV.out).mono ?_; rintro e w2 ⟨rfl, g2⟩
       obtain ⟨T, W2, eT, e2, NT, LT, gt⟩ := boxP1 w2 (hdC 0 0 0 0 0) 54
       obtain ⟨W3, e3, r3, q3, o3⟩ := rowP1 (hdC c k x o s) NT
       have G3 := hide (q3 V (gr_trans g2 gt) (Nat.le_trans g2.size LT))
       simp only [hdC] at e2
       replace NT := hide NT; replace r3 := hide r3; replace e3 := hide e3; clear q3 o3 g2 gt LT)
    | (refine wpList_store_row rfl 54 _ _ rfl T (hdC c k x o s) rfl rfl _ _ NT.out (hd_size _ _ _ _ _) rfl (hd_one _ _ _ _ _) ?_; rw [e3.out]))
  clear HM HH
  refine wp_region_held (S := fun W' => W3.grownBy W' none) (by kernel_rfl) ?_
  have S0 : W3.grownBy W3.drew none := gr_of_below (Below.drew (Below.refl _ _))
  rw [show ({ W3 with drawn := W3.drawn + 1 } : World) = W3.drew from rfl]
  generalize W3.drew = X0 at *
  refine take_at 0 21 (v := .agg (hdC c k x o s)) rfl rfl (by kernel_rfl) (by kernel_rfl) (by kernel_rfl) (fun _ _ _ h => h) (Or.inl ⟨by rfl, fun W hW => run_load_rowP 54 _ rfl T rfl ((hW.block T (Array.getElem?_eq_some_iff.1 r3.out).1 (by simp)).trans r3.out) Try.underlying54 rfl (hd_size _ _ _ _ _)⟩) S0 ?_
  simp only [Act.put, List.setIfInBounds_toArray, List.set_cons_zero, List.set_cons_succ]
  refine take_at 1 22 (v := .slice (some ⟨g, off, none⟩) len cap) rfl rfl (by kernel_rfl) (by kernel_rfl) (by kernel_rfl) (fun _ _ _ h => h) (Or.inl ⟨by rfl, fun W hW => by go_simp⟩) S0 ?_
  simp only [Act.put, List.setIfInBounds_toArray, List.set_cons_zero, List.set_cons_succ]
  refine take_at 2 23 (v := .int .i64 (24 + (l : Int))) rfl rfl (by kernel_rfl) (by kernel_rfl) (by kernel_rfl) (fun _ _ _ h => h) (Or.inl ⟨by rfl, fun W hW => by go_simp⟩) S0 ?_
  simp only [Act.put, List.setIfInBounds_toArray, List.set_cons_zero, List.set_cons_succ]
  refine take_at 3 24 (v := .int .i64 (24 + (l : Int))) rfl rfl (by kernel_rfl) (by kernel_rfl) (by kernel_rfl) (fun _ _ _ h => h) (Or.inl ⟨by rfl, fun W hW => by go_simp⟩) S0 ?_
  simp only [Act.put, List.setIfInBounds_toArray, List.set_cons_zero, List.set_cons_succ]
  refine take_at 4 25 (v := .slice (some ⟨g, o2, none⟩) l l) rfl rfl (by kernel_rfl) (by kernel_rfl) (by kernel_rfl) (fun _ _ _ h => h) (Or.inl ⟨by rfl, fun W hW => run_sub3 22 _ _ _ _ rfl (SL.out W)⟩) S0 ?_
  simp only [Act.put, List.setIfInBounds_toArray, List.set_cons_zero, List.set_cons_succ]
  refine wpAnyH_all (rs := [5, 9]) (by kernel_rfl) (by simp) fun j hj => ?_
  simp only [List.mem_cons, List.not_mem_nil, or_false] at hj
  rcases hj with rfl | rfl
  · refine wpOp_plain rfl rfl ?_
    refine oper_call 26 rfl (by go_simp) (HR.out X0 (gr_trans gV.out (gr_trans G3.out S0))) ?_
    rintro e X1 ⟨ca, cc, ta, tc, ka, kc, rfl, hq, gc⟩
    refine ⟨_, rfl, ?_⟩
    have S1 := gr_trans S0 gc
    refine ⟨S1, ?_⟩
    simp only [Act.put, List.setIfInBounds_toArray, List.set_cons_zero, List.set_cons_succ]
    refine take_at 6 20 (v := .tuple #[.agg (rqC q ca cc ta tc ka kc), .int .u16 0]) rfl rfl (by kernel_rfl) (by kernel_rfl) (by kernel_rfl) (fun _ _ _ h => h) (Or.inl ⟨by rfl, fun W hW => by go_simp⟩) S1 ?_
    simp only [Act.put, List.setIfInBounds_toArray, List.set_cons_zero, List.set_cons_succ]
    refine take_at 7 27 (v := .agg (rqC q ca cc ta tc ka kc)) rfl rfl (by kernel_rfl) (by kernel_rfl) (by kernel_rfl) (fun _ _ _ h => h) (Or.inl ⟨by rfl, fun W hW => by go_simp⟩) S1 ?_
    simp only [Act.put, List.setIfInBounds_toArray, List.set_cons_zero, List.set_cons_succ]
    refine take_at 8 28 (v := .int .u16 0) rfl rfl (by kernel_rfl) (by kernel_rfl) (by kernel_rfl) (fun _ _ _ h => h) (Or.inl ⟨by rfl, fun W hW => by go_simp⟩) S1 ?_
    simp only [Act.put, List.setIfInBounds_toArray, List.set_cons_zero, List.set_cons_succ]
    refine one_at 9 (by kernel_rfl) rfl rfl ?_
    obtain ⟨Q, X2, eQ, eq, NQ, LQ, gq⟩ := boxP1 X1 noRow 31
    refine oper_value 6 (w' := X2) (v := .pointer (some ⟨Q, 0, none⟩)) rfl (by rw [← eQ, ← eq]; simp only [noRow_eq]; go_simp) ?_
    clear eQ eq
    have S2 := gr_trans S1 gq
    have HQX : ∀ W : World, (∀ k, X0.heap.size ≤ k → k < X1.heap.size → W.heap[k]? = X2.heap[k]?) → QAt W q ca cc ta tc ka kc := fun W h => hq W fun k h1 h2 => (h k h1 h2).trans (gq.block k h2 (by simp))
    have LQ1 := LQ
    replace LQ := Nat.le_trans S1.size LQ
    refine ⟨S2, ?_⟩
    simp only [Act.put, List.setIfInBounds_toArray, List.set_cons_zero, List.set_cons_succ]
    obtain ⟨X4, e4, r4, q4, o4⟩ := rowP1 (rqC q ca cc ta tc ka kc) NQ
    have S4 := hide (q4 W3 S2 LQ)
    have G4 := gr_trans G3.out (q4 W3 S2 LQ)
    have r34 := ((q4 W3 S2 LQ).block T (Array.getElem?_eq_some_iff.1 r3.out).1 (by simp)).trans r3.out
    have rR4 := (G4.block R RV.out (by simp)).trans rR.out
    obtain ⟨X9, e9, r9, q9, o9⟩ := rowP1 (stC ⟨q, ⟨#[]⟩, 24 + (l : Int), 0, false, 0⟩ ca cc ta tc ka kc) rR4
    have GE := hide (q9 w (gr_trans gV.out G4) wR.out)
    have HQ := hide (HQX X9 (fun k hk hk2 => (o9 k (by have a1 := RV.out; have a2 := G3.out.size; have a3 := S0.size; omega)).trans (o4 k (by omega))))
    replace r4 := hide r4
    replace e4 := hide e4
    replace NQ := hide NQ
    replace r9 := hide r9
    replace e9 := hide e9
    replace rR4 := hide rR4
    clear q4 o4 hq gc gq LQ S0 S1 S2 q9 o9 G4 r34 HQX
    refine store_at 10 (by kernel_rfl) rfl rfl rfl 31 _ _ rfl Q (rqC q ca cc ta tc ka kc) rfl rfl _ _ NQ.out (req_size _ _ _ _ _ _ _) rfl (req_one _ _ _ _ _ _ _) (by rw [e4.out]; exact S4.out) ?_
    rw [e4.out]
    refine take_at 11 7 (v := .int .u16 0) rfl rfl (by kernel_rfl) (by kernel_rfl) (by kernel_rfl) (fun _ _ _ h => h) (Or.inl ⟨by rfl, fun W hW => by go_simp⟩) S4.out ?_
    simp only [Act.put, List.setIfInBounds_toArray, List.set_cons_zero, List.set_cons_succ]
    refine wpAnyH_done (by kernel_rfl) ?_ _
    simp only [Exit.then]
    go_wp2_with (first
      | (refine wpList_load_row rfl 31 _ rfl Q rfl _ (#[.slice ca q.cmds.length cc, .int .i64 q.form.dia, .string q.form.verb, .int .i64 q.form.code, .int .u32 q.form.opq, .bool q.form.quiet, .bool q.form.wcas, .string q.form.flags, .slice ta q.form.toks.length tc, .slice ka q.form.keys.length kc, .bool q.form.b64]) _ _ r4.out Try.underlying31 rfl (req_size q ca ta ka cc tc kc) ?_)
      | (refine wpList_store_row rfl 34 _ _ rfl R (stC ⟨q, ⟨#[]⟩, 24 + (l : Int), 0, false, 0⟩ ca cc ta tc ka kc) rfl rfl _ _ rR4.out (step_size _ _ _ _ _ _ _) rfl (step_one _ _ _ _ _ _ _) ?_; rw [e9.out]))
    exact binE_ret (g := R) (ca := ca) (cc := cc) (ta := ta) (tc := tc) (ka := ka) (kc := kc) rfl r9.out rfl HQ.out GE.out
  · refine wpOp_plain rfl rfl ?_
    obtain ⟨Q, X1, eQ, eq, NQ, LQ, gq⟩ := boxP1 X0 noRow 31
    refine oper_value 6 (w' := X1) (v := .pointer (some ⟨Q, 0, none⟩)) rfl (by rw [← eQ, ← eq]; simp only [noRow_eq]; go_simp) ?_
    clear eQ eq
    have S1 := gr_trans S0 gq
    refine ⟨S1, ?_⟩
    simp only [Act.put, List.setIfInBounds_toArray, List.set_cons_zero, List.set_cons_succ]
    refine one_at 5 (by kernel_rfl) rfl rfl ?_
    refine oper_call 26 rfl (by go_simp) (HR.out X1 (gr_trans gV.out (gr_trans G3.out S1))) ?_
    rintro e X2 ⟨ca, cc, ta, tc, ka, kc, rfl, hq, gc⟩
    refine ⟨_, rfl, ?_⟩
    have S2 := gr_trans S1 gc
    have HQX := hq
    have LQ1 := (Array.getElem?_eq_some_iff.1 NQ).1
    replace NQ := (gc.block Q (Array.getElem?_eq_some_iff.1 NQ).1 (by simp)).trans NQ
    replace LQ := Nat.le_trans S0.size LQ
    refine ⟨S2, ?_⟩
    simp only [Act.put, List.setIfInBounds_toArray, List.set_cons_zero, List.set_cons_succ]
    refine take_at 6 20 (v := .tuple #[.agg (rqC q ca cc ta tc ka kc), .int .u16 0]) rfl rfl (by kernel_rfl) (by kernel_rfl) (by kernel_rfl) (fun _ _ _ h => h) (Or.inl ⟨by rfl, fun W hW => by go_simp⟩) S2 ?_
    simp only [Act.put, List.setIfInBounds_toArray, List.set_cons_zero, List.set_cons_succ]
    refine take_at 7 27 (v := .agg (rqC q ca cc ta tc ka kc)) rfl rfl (by kernel_rfl) (by kernel_rfl) (by kernel_rfl) (fun _ _ _ h => h) (Or.inl ⟨by rfl, fun W hW => by go_simp⟩) S2 ?_
    simp only [Act.put, List.setIfInBounds_toArray, List.set_cons_zero, List.set_cons_succ]
    refine take_at 8 28 (v := .int .u16 0) rfl rfl (by kernel_rfl) (by kernel_rfl) (by kernel_rfl) (fun _ _ _ h => h) (Or.inl ⟨by rfl, fun W hW => by go_simp⟩) S2 ?_
    simp only [Act.put, List.setIfInBounds_toArray, List.set_cons_zero, List.set_cons_succ]
    obtain ⟨X4, e4, r4, q4, o4⟩ := rowP1 (rqC q ca cc ta tc ka kc) NQ
    have S4 := hide (q4 W3 S2 LQ)
    have G4 := gr_trans G3.out (q4 W3 S2 LQ)
    have r34 := ((q4 W3 S2 LQ).block T (Array.getElem?_eq_some_iff.1 r3.out).1 (by simp)).trans r3.out
    have rR4 := (G4.block R RV.out (by simp)).trans rR.out
    obtain ⟨X9, e9, r9, q9, o9⟩ := rowP1 (stC ⟨q, ⟨#[]⟩, 24 + (l : Int), 0, false, 0⟩ ca cc ta tc ka kc) rR4
    have GE := hide (q9 w (gr_trans gV.out G4) wR.out)
    have HQ := hide (HQX X9 (fun k hk hk2 => (o9 k (by have a1 := RV.out; have a2 := G3.out.size; have a3 := S1.size; omega)).trans (o4 k (by omega))))
    replace r4 := hide r4
    replace e4 := hide e4
    replace NQ := hide NQ
    replace r9 := hide r9
    replace e9 := hide e9
    replace rR4 := hide rR4
    clear q4 o4 hq gc gq LQ S0 S1 S2 q9 o9 G4 r34 HQX
    refine store_at 10 (by kernel_rfl) rfl rfl rfl 31 _ _ rfl Q (rqC q ca cc ta tc ka kc) rfl rfl _ _ NQ.out (req_size _ _ _ _ _ _ _) rfl (req_one _ _ _ _ _ _ _) (by rw [e4.out]; exact S4.out) ?_
    rw [e4.out]
    refine take_at 11 7 (v := .int .u16 0) rfl rfl (by kernel_rfl) (by kernel_rfl) (by kernel_rfl) (fun _ _ _ h => h) (Or.inl ⟨by rfl, fun W hW => by go_simp⟩) S4.out ?_
    simp only [Act.put, List.setIfInBounds_toArray, List.set_cons_zero, List.set_cons_succ]
    refine wpAnyH_done (by kernel_rfl) ?_ _
    simp only [Exit.then]
    go_wp2_with (first
      | (refine wpList_load_row rfl 31 _ rfl Q rfl _ (#[.slice ca q.cmds.length cc, .int .i64 q.form.dia, .string q.form.verb, .int .i64 q.form.code, .int .u32 q.form.opq, .bool q.form.quiet, .bool q.form.wcas, .string q.form.flags, .slice ta q.form.toks.length tc, .slice ka q.form.keys.length kc, .bool q.form.b64]) _ _ r4.out Try.underlying31 rfl (req_size q ca ta ka cc tc kc) ?_)
      | (refine wpList_store_row rfl 34 _ _ rfl R (stC ⟨q, ⟨#[]⟩, 24 + (l : Int), 0, false, 0⟩ ca cc ta tc ka kc) rfl rfl _ _ rR4.out (step_size _ _ _ _ _ _ _) rfl (step_one _ _ _ _ _ _ _) ?_; rw [e9.out]))
    exact binE_ret (g := R) (ca := ca) (cc := cc) (ta := ta) (tc := tc) (ka := ka) (kc := kc) rfl r9.out rfl HQ.out GE.out
theorem ppar_any {a : Option Addr} (h : Bu w a len cap b) (hl : len ≤ 100000) : Calls Try.prog 11 #[.slice a len cap] w fun e w' => BinE (parse16 b) w e w' := by
  have hn := h.n
  have HM := fun (W : World) (hg : w.grownBy W none) => meas_any (h.on (below_gr hg)) hl
  rcases meas_cases b with e | e | ⟨e, h24, h128, hL, hfit⟩
  · have e1 : parse16 b = bareB 3 := by unfold parse16; rw [e]; rfl
    rw [e1]
    rw [e] at HM
    exact par_bare (by decide) HM
  · have e1 : parse16 b = bareB 9 := by unfold parse16; rw [e]; rfl
    rw [e1]
    rw [e] at HM
    exact par_bare (by decide) HM
  · obtain ⟨g, off, rfl⟩ : ∃ g off, a = some ⟨g, off, none⟩ := by
      rcases h.b with ⟨h1, _, _⟩ | ⟨g, off, r⟩
      · omega
      · exact ⟨g, off, r.at_⟩
    have hc := h.c
    have gw : g < w.heap.size := by
      rcases h.b with ⟨h1, _, _⟩ | ⟨g', off', r⟩
      · omega
      · have := r.at_
        cases this
        exact r.old
    have l0 := (numB_bd ((b.drop 8).take 4)).1
    have k0 := (numB_bd ((b.drop 2).take 2)).1
    have k1 := numB_two (l := (b.drop 2).take 2) (by rw [List.length_take, List.length_drop]; omega)
    have o0 := (numB_bd ((b.drop 12).take 4)).1
    have o1 := numB_four (l := (b.drop 12).take 4) (by rw [List.length_take, List.length_drop]; omega)
    have eL : getB b 8 4 = numB ((b.drop 8).take 4) := rfl
    have eK : getB b 2 2 = numB ((b.drop 2).take 2) := rfl
    have eO : getB b 12 4 = numB ((b.drop 12).take 4) := rfl
    rw [← eL] at l0
    rw [← eK] at k0 k1
    rw [← eO] at o0 o1
    obtain ⟨l, hl_⟩ : ∃ l : Nat, getB b 8 4 = (l : Int) := ⟨(getB b 8 4).toNat, by omega⟩
    obtain ⟨k, hk_⟩ : ∃ k : Nat, getB b 2 2 = (k : Int) := ⟨(getB b 2 2).toNat, by omega⟩
    obtain ⟨x, hx_⟩ : ∃ x : Nat, by4 b = (x : Int) := ⟨(b.getD 4 0).toNat, rfl⟩
    have c0 : 0 ≤ by1 b := Int.natCast_nonneg _
    have c1 : by1 b ≤ 255 := by have := UInt8.toNat_lt (b.getD 1 0); unfold by1; omega
    have x1 : x ≤ 255 := by have := UInt8.toNat_lt (b.getD 4 0); unfold by4 at hx_; omega
    have g1 : ∀ i (hi : i < b.length), b.getD i 0 = b[i] := fun i hi => by rw [List.getD_eq_getElem?_getD, List.getElem?_eq_getElem hi]; rfl
    obtain ⟨o2, s2, b2⟩ := h.sub3 (i := 24) (m := l) (by omega) 24 (24 + (l : Int)) rfl rfl
    have h24b : Bu w (some ⟨g, off, none⟩) 24 24 (b.take 24) := h.front (by omega) (by omega) (by omega)
    have hd : ∀ i n, i + n ≤ 24 → getB (b.take 24) i n = getB b i n := fun i n hin => by
      unfold getB
      rw [List.drop_take, List.take_take, Nat.min_eq_left (by omega)]
    have H : ParH w g off len cap b (by1 b) (k : Int) (x : Int) (getB b 12 4) (getB b 16 8) l o2 ((b.drop 24).take l) := by
      refine ⟨gw, by omega, by omega, fun W hg => ?_, fun W hg => ?_, s2, fun W hg => b2 W (h.on (below_gr hg))⟩
      · have := HM W hg
        rw [e, hl_] at this
        exact this
      · have hh := rhead_any (w := W) (g := g) (off := off) (b := b.take 24) (c := by1 b) (x := (x : Int)) (h24b.on (below_gr hg))
          (fun W2 h2 => by have := first_byte (h.on (below_gr (gr_trans hg h2))) 1 (by omega); rw [← g1 1 (by omega)] at this; exact this)
          (fun W2 h2 => by have := first_byte (h.on (below_gr (gr_trans hg h2))) 4 (by omega); rw [← g1 4 (by omega)] at this; rw [← hx_]; exact this)
          (by omega) (by omega)
        rw [hd 2 2 (by decide), hd 12 4 (by decide), hd 16 8 (by decide), hk_] at hh
        exact hh
    have HR := fun (W : World) (hg : w.grownBy W none) => request_any (w := W) (g := g) (off := o2) (l := l) (bd := (b.drop 24).take l) (c := by1 b) (o := getB b 12 4) (cas := getB b 16 8) (x := x) (k := k) (b2 W (h.on (below_gr hg))) (Nat.lt_of_lt_of_le gw hg.size) (by omega) x1 (by omega) o0 o1 c0 c1
    have es : stB b = statusN (ofN (by1 b)) x k l := by unfold stB; rw [hx_, hk_, hl_]
    rw [← es] at HR
    by_cases hst : stB b = 0
    · have e1 : parse16 b = reqB (by1 b) (getB b 12 4) b x k (l - x - k) := by
        unfold parse16
        rw [e, if_neg (by simp), if_neg (by simpa using hst), hx_, hk_, hl_]
        congr 1
        omega
      have F := fine_of (r := ofN (by1 b)) (x := (x : Int)) (k := (k : Int)) (l := (l : Int)) (by omega) (by rw [← es]; exact hst)
      have ff := F.fit
      have er := reqB_eq (c := by1 b) (o := getB b 12 4) (b := b) (x := x) (k := k) (v := l - x - k) (l := l) (by omega) (by omega) (fun hv => by have := F.val hv; omega)
      rw [hst] at HR
      have := par_Q H HR
      rw [if_pos rfl, ← er] at this
      rw [e1]
      have e2 : reqB (by1 b) (getB b 12 4) b x k (l - x - k) = ⟨(reqB (by1 b) (getB b 12 4) b x k (l - x - k)).req, ⟨#[]⟩, 24 + (l : Int), 0, false, 0⟩ := by
        unfold reqB
        simp only []
        congr 1
        omega
      rw [e2]
      exact this
    · have e1 : parse16 b = faultB (by1 b) (stB b) (getB b 12 4) (24 + (l : Int)) := by
        unfold parse16
        rw [e, if_neg (by simp), if_pos hst, hl_]
      rw [e1]
      rw [if_neg hst] at HR
      have hb := status_bd (r := ofN (by1 b)) (x := (x : Int)) (k := (k : Int)) (l := (l : Int))
      rw [← es] at hb
      exact par_F H (by omega) c0 c1 o0 o1 HR
end
end Go.Proofs.Ytegaljpllcgaaaa
