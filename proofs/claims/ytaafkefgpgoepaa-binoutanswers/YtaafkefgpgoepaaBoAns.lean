/- BinoutAnswers returns true for every request, all results and any status, and writes nothing that was there. Conditions: what the package is asked for; an opaque number of 32 bits. -/
import Derived.Test.YtaafkefgpgoepaaBoAw
import Derived.Test.YtaafkefgpgoepaaOutFew
import Derived.Test.YtaafkefgpgoepaaBoEncZ
namespace Go.Proofs.Ytaafkefgpgoepaa
set_option linter.unusedVariables false
set_option linter.unusedSimpArgs false
open Go.RowKit Go.Shelf

section
set_option maxRecDepth 100000 in
set_option maxHeartbeats 4000000 in
theorem binoutAnswers_lib (L : BoLib) (W : World) (r : Qv) (ca : Option Addr) (cc : Nat) (ta : Option Addr) (tc : Nat) (ka : Option Addr) (kc : Nat) (hq : QAt W r ca cc ta tc ka kc) (ho : 0 ≤ r.form.opq ∧ r.form.opq < 4294967296) (la : Option Addr) (lc : Nat) (xs : List Rv) (hx : Ru W la xs.length lc xs) (s : Int) (hs : (Lit.int .i64 s).wf = true) :
    Calls Try.prog 3 #[.agg (rqC r ca cc ta tc ka kc), .slice la xs.length lc, .int .i64 s] W fun e W' => e = .returned (.bool true) ∧ Below W.heap.size W W' := by
  have B := QBox.new W r ca ta ka cc tc kc
  obtain ⟨V, hV⟩ : ∃ V, V = W.alloc (.cells (rqC r ca cc ta tc ka kc) 28) := ⟨_, rfl⟩
  obtain ⟨q, hqq⟩ : ∃ q, q = W.heap.size := ⟨_, rfl⟩
  rw [← hV, ← hqq] at B
  have HB := hide B
  go_enter Try.func3, Try.ntmps3
  go_upto_region 1 with fail
  rw [← hV, ← hqq]
  clear hV hqq B
  go_upto_region 3 with (first
    | (go_at_call 8; refine (awake_any L).mono ?_; rintro e w2 ⟨rfl, g2⟩; have B2 := hide (HB.out.on g2); replace g2 := hide g2)
    | (refine wpList_load_row rfl 28 _ rfl q rfl _ _ _ _ B2.out.row Try.underlying28 rfl (req_size _ _ _ _ _ _ _) ?_)
    | (go_at_call 9; refine (few_any (hq.on (below_gr B2.out.gr)) (hx.on (below_gr B2.out.gr))).mono ?_; rintro e w3 ⟨ok, rfl, hok, g3⟩; have HG3 := hide (gr_trans g2.out g3); clear g3 g2))
  clear B2
  cases ok with
  | false =>
    go_wp2
    go_ret
    exact ⟨rfl, below_gr (gr_trans HB.out.gr HG3.out)⟩
  | true =>
    have hf := hok rfl
    clear hok
    have HE := hide (fun (U : World) (g : w3.grownBy U none) => L.enc U _ _ _ _ _ _ _ _ _ _ (hq.on (below_gr (gr_trans HB.out.gr (gr_trans HG3.out g)))) (hx.on (below_gr (gr_trans HB.out.gr (gr_trans HG3.out g)))) hf ho.1 ho.2)
    have HF := hide (fun (U : World) (g : w3.grownBy U none) => renc_any (hq.on (below_gr (gr_trans HB.out.gr (gr_trans HG3.out g)))) (hx.on (below_gr (gr_trans HB.out.gr (gr_trans HG3.out g)))) hf ho.1 ho.2)
    have HC := hide (fun U => L.code s U)
    have HD := hide (fun U => rcode_any s U)
    clear hq hx hf ho
    generalize hl : encA r xs = l at *
    obtain ⟨T, hT⟩ : ∃ T, T = strOf (ints l) := ⟨_, rfl⟩
    have convB := fun {w : World} {a : Option Addr} {len cap : Nat} (h : Bu w a len cap l) => convB h
    simp only [← hT] at convB
    clear hl hT
    go_upto_region 5 with fail
    refine wp_region_held (S := fun W' => w3.grownBy W' none) (by kernel_rfl) ?_
    have S3 : w3.grownBy w3.drew none := gr_of_below (Below.drew (Below.refl _ _))
    change wpAnyH _ _ _ _ _ 17 (Array.replicate 17 false) _ w3.drew
    generalize w3.drew = W3 at *
    refine take_at 0 20 (v := .agg (rqC r ca cc ta tc ka kc)) rfl rfl (by kernel_rfl) (by kernel_rfl) (by kernel_rfl) (fun _ _ _ h => h) (Or.inl ⟨by rfl, fun W hW => run_load_row 28 _ rfl q rfl ((HB.out.on (gr_trans HG3.out hW)).row) Try.underlying28 rfl (req_size _ _ _ _ _ _ _)⟩) S3 ?_
    simp only [Act.put, List.setIfInBounds_toArray, List.set_cons_zero, List.set_cons_succ]
    refine take_at 1 21 (v := .slice la xs.length lc) rfl rfl (by kernel_rfl) (by kernel_rfl) (by kernel_rfl) (fun _ _ _ h => h) (Or.inl ⟨by rfl, fun W hW => by go_simp⟩) S3 ?_
    simp only [Act.put, List.setIfInBounds_toArray, List.set_cons_zero, List.set_cons_succ]
    refine take_at 4 24 (v := .agg (rqC r ca cc ta tc ka kc)) rfl rfl (by kernel_rfl) (by kernel_rfl) (by kernel_rfl) (fun _ _ _ h => h) (Or.inl ⟨by rfl, fun W hW => run_load_row 28 _ rfl q rfl ((HB.out.on (gr_trans HG3.out hW)).row) Try.underlying28 rfl (req_size _ _ _ _ _ _ _)⟩) S3 ?_
    simp only [Act.put, List.setIfInBounds_toArray, List.set_cons_zero, List.set_cons_succ]
    refine take_at 5 25 (v := .slice la xs.length lc) rfl rfl (by kernel_rfl) (by kernel_rfl) (by kernel_rfl) (fun _ _ _ h => h) (Or.inl ⟨by rfl, fun W hW => by go_simp⟩) S3 ?_
    simp only [Act.put, List.setIfInBounds_toArray, List.set_cons_zero, List.set_cons_succ]
    refine one_at 2 (by kernel_rfl) rfl rfl ?_
    refine oper_call 22 rfl (by go_simp) (HE.out _ S3) ?_
    rintro e w4 ⟨a4, n4, c4, rfl, -, b4, g4⟩
    have S4 := gr_trans S3 g4
    have k4 := convB b4
    refine ⟨_, rfl, S4, ?_⟩
    simp only [Act.put, List.setIfInBounds_toArray, List.set_cons_zero, List.set_cons_succ]
    refine wpAnyH_all (rs := [3, 6]) (by kernel_rfl) (by simp) fun j hj => ?_
    rcases (by simpa using hj : j = 3 ∨ j = 6) with rfl | rfl
    · refine wpOp_plain rfl rfl ?_
      refine oper_value 23 rfl (v := .string T) (w' := w4) (by go_simp) ?_
      refine ⟨S4, ?_⟩
      simp only [Act.put, List.setIfInBounds_toArray, List.set_cons_zero, List.set_cons_succ]
      refine one_at 6 (by kernel_rfl) rfl rfl ?_
      refine oper_call 26 rfl (by go_simp) (HF.out _ S4) ?_
      rintro e w5 ⟨a5, n5, c5, rfl, -, b5, g5⟩
      have S5 := gr_trans S4 g5
      have k5 := convB b5
      refine ⟨_, rfl, S5, ?_⟩
      simp only [Act.put, List.setIfInBounds_toArray, List.set_cons_zero, List.set_cons_succ]
      refine one_at 7 (by kernel_rfl) rfl rfl ?_
      refine oper_value 27 rfl (v := .string T) (w' := w5) (by go_simp) ?_
      refine ⟨S5, ?_⟩
      simp only [Act.put, List.setIfInBounds_toArray, List.set_cons_zero, List.set_cons_succ]
      refine take_at 8 28 (v := .bool true) rfl rfl (by kernel_rfl) (by kernel_rfl) (by kernel_rfl) (fun _ _ _ h => h) (Or.inl ⟨by rfl, fun W hW => by go_simp⟩) S5 ?_
      simp only [Act.put, List.setIfInBounds_toArray, List.set_cons_zero, List.set_cons_succ]
      refine take_at 9 29 (v := .bool true) rfl rfl (by kernel_rfl) (by kernel_rfl) (by kernel_rfl) (fun _ _ _ h => h) (Or.inl ⟨by rfl, fun W hW => by go_simp⟩) S5 ?_
      simp only [Act.put, List.setIfInBounds_toArray, List.set_cons_zero, List.set_cons_succ]
      refine take_at 10 30 (v := .int .i64 s) rfl rfl (by kernel_rfl) (by kernel_rfl) (by kernel_rfl) (fun _ _ _ h => h) (Or.inl ⟨by rfl, fun W hW => by go_simp⟩) S5 ?_
      simp only [Act.put, List.setIfInBounds_toArray, List.set_cons_zero, List.set_cons_succ]
      refine take_at 12 32 (v := .int .i64 s) rfl rfl (by kernel_rfl) (by kernel_rfl) (by kernel_rfl) (fun _ _ _ h => h) (Or.inl ⟨by rfl, fun W hW => by go_simp⟩) S5 ?_
      simp only [Act.put, List.setIfInBounds_toArray, List.set_cons_zero, List.set_cons_succ]
      refine one_at_g 11 (by kernel_rfl) rfl (by rfl) ?_
      refine oper_call 31 rfl (by go_simp) (HC.out _) ?_
      rintro e w6 ⟨rfl, rfl⟩
      refine ⟨_, rfl, S5, ?_⟩
      simp only [Act.put, List.setIfInBounds_toArray, List.set_cons_zero, List.set_cons_succ]
      refine one_at_g 13 (by kernel_rfl) rfl (by rfl) ?_
      refine oper_call 33 rfl (by go_simp) (HD.out _) ?_
      rintro e w7 ⟨rfl, rfl⟩
      refine ⟨_, rfl, S5, ?_⟩
      simp only [Act.put, List.setIfInBounds_toArray, List.set_cons_zero, List.set_cons_succ]
      refine take_at 14 34 (v := .bool true) rfl rfl (by kernel_rfl) (by kernel_rfl) (by kernel_rfl) (fun _ _ _ h => h) (Or.inl ⟨by rfl, fun W hW => by go_simp⟩) S5 ?_
      simp only [Act.put, List.setIfInBounds_toArray, List.set_cons_zero, List.set_cons_succ]
      refine take_at 15 35 (v := .bool true) rfl rfl (by kernel_rfl) (by kernel_rfl) (by kernel_rfl) (fun _ _ _ h => h) (Or.inl ⟨by rfl, fun W hW => by go_simp⟩) S5 ?_
      simp only [Act.put, List.setIfInBounds_toArray, List.set_cons_zero, List.set_cons_succ]
      refine take_at 16 6 (v := .bool true) rfl rfl (by kernel_rfl) (by kernel_rfl) (by kernel_rfl) (fun _ _ _ h => h) (Or.inl ⟨by rfl, fun W hW => by go_simp⟩) S5 ?_
      simp only [Act.put, List.setIfInBounds_toArray, List.set_cons_zero, List.set_cons_succ]
      refine wpAnyH_done (by kernel_rfl) ?_ _
      have GE := hide (gr_trans HG3.out S5)
      go_wp2
      go_ret
      exact ⟨rfl, below_gr (gr_trans HB.out.gr GE.out)⟩
    · refine wpOp_plain rfl rfl ?_
      refine oper_call 26 rfl (by go_simp) (HF.out _ S4) ?_
      rintro e w5 ⟨a5, n5, c5, rfl, -, b5, g5⟩
      have S5 := gr_trans S4 g5
      have k5 := convB b5
      refine ⟨_, rfl, S5, ?_⟩
      simp only [Act.put, List.setIfInBounds_toArray, List.set_cons_zero, List.set_cons_succ]
      replace k4 := convB (b4.on (below_gr g5))
      refine wpAnyH_all (rs := [3, 7]) (by kernel_rfl) (by simp) fun j hj => ?_
      rcases (by simpa using hj : j = 3 ∨ j = 7) with rfl | rfl
      · refine wpOp_plain rfl rfl ?_
        refine oper_value 23 rfl (v := .string T) (w' := w5) (by go_simp) ?_
        refine ⟨S5, ?_⟩
        simp only [Act.put, List.setIfInBounds_toArray, List.set_cons_zero, List.set_cons_succ]
        refine one_at 7 (by kernel_rfl) rfl rfl ?_
        refine oper_value 27 rfl (v := .string T) (w' := w5) (by go_simp) ?_
        refine ⟨S5, ?_⟩
        simp only [Act.put, List.setIfInBounds_toArray, List.set_cons_zero, List.set_cons_succ]
        refine take_at 8 28 (v := .bool true) rfl rfl (by kernel_rfl) (by kernel_rfl) (by kernel_rfl) (fun _ _ _ h => h) (Or.inl ⟨by rfl, fun W hW => by go_simp⟩) S5 ?_
        simp only [Act.put, List.setIfInBounds_toArray, List.set_cons_zero, List.set_cons_succ]
        refine take_at 9 29 (v := .bool true) rfl rfl (by kernel_rfl) (by kernel_rfl) (by kernel_rfl) (fun _ _ _ h => h) (Or.inl ⟨by rfl, fun W hW => by go_simp⟩) S5 ?_
        simp only [Act.put, List.setIfInBounds_toArray, List.set_cons_zero, List.set_cons_succ]
        refine take_at 10 30 (v := .int .i64 s) rfl rfl (by kernel_rfl) (by kernel_rfl) (by kernel_rfl) (fun _ _ _ h => h) (Or.inl ⟨by rfl, fun W hW => by go_simp⟩) S5 ?_
        simp only [Act.put, List.setIfInBounds_toArray, List.set_cons_zero, List.set_cons_succ]
        refine take_at 12 32 (v := .int .i64 s) rfl rfl (by kernel_rfl) (by kernel_rfl) (by kernel_rfl) (fun _ _ _ h => h) (Or.inl ⟨by rfl, fun W hW => by go_simp⟩) S5 ?_
        simp only [Act.put, List.setIfInBounds_toArray, List.set_cons_zero, List.set_cons_succ]
        refine one_at_g 11 (by kernel_rfl) rfl (by rfl) ?_
        refine oper_call 31 rfl (by go_simp) (HC.out _) ?_
        rintro e w6 ⟨rfl, rfl⟩
        refine ⟨_, rfl, S5, ?_⟩
        simp only [Act.put, List.setIfInBounds_toArray, List.set_cons_zero, List.set_cons_succ]
        refine one_at_g 13 (by kernel_rfl) rfl (by rfl) ?_
        refine oper_call 33 rfl (by go_simp) (HD.out _) ?_
        rintro e w7 ⟨rfl, rfl⟩
        refine ⟨_, rfl, S5, ?_⟩
        simp only [Act.put, List.setIfInBounds_toArray, List.set_cons_zero, List.set_cons_succ]
        refine take_at 14 34 (v := .bool true) rfl rfl (by kernel_rfl) (by kernel_rfl) (by kernel_rfl) (fun _ _ _ h => h) (Or.inl ⟨by rfl, fun W hW => by go_simp⟩) S5 ?_
        simp only [Act.put, List.setIfInBounds_toArray, List.set_cons_zero, List.set_cons_succ]
        refine take_at 15 35 (v := .bool true) rfl rfl (by kernel_rfl) (by kernel_rfl) (by kernel_rfl) (fun _ _ _ h => h) (Or.inl ⟨by rfl, fun W hW => by go_simp⟩) S5 ?_
        simp only [Act.put, List.setIfInBounds_toArray, List.set_cons_zero, List.set_cons_succ]
        refine take_at 16 6 (v := .bool true) rfl rfl (by kernel_rfl) (by kernel_rfl) (by kernel_rfl) (fun _ _ _ h => h) (Or.inl ⟨by rfl, fun W hW => by go_simp⟩) S5 ?_
        simp only [Act.put, List.setIfInBounds_toArray, List.set_cons_zero, List.set_cons_succ]
        refine wpAnyH_done (by kernel_rfl) ?_ _
        have GE := hide (gr_trans HG3.out S5)
        go_wp2
        go_ret
        exact ⟨rfl, below_gr (gr_trans HB.out.gr GE.out)⟩
      · refine wpOp_plain rfl rfl ?_
        refine oper_value 27 rfl (v := .string T) (w' := w5) (by go_simp) ?_
        refine ⟨S5, ?_⟩
        simp only [Act.put, List.setIfInBounds_toArray, List.set_cons_zero, List.set_cons_succ]
        refine one_at 3 (by kernel_rfl) rfl rfl ?_
        refine oper_value 23 rfl (v := .string T) (w' := w5) (by go_simp) ?_
        refine ⟨S5, ?_⟩
        simp only [Act.put, List.setIfInBounds_toArray, List.set_cons_zero, List.set_cons_succ]
        refine take_at 8 28 (v := .bool true) rfl rfl (by kernel_rfl) (by kernel_rfl) (by kernel_rfl) (fun _ _ _ h => h) (Or.inl ⟨by rfl, fun W hW => by go_simp⟩) S5 ?_
        simp only [Act.put, List.setIfInBounds_toArray, List.set_cons_zero, List.set_cons_succ]
        refine take_at 9 29 (v := .bool true) rfl rfl (by kernel_rfl) (by kernel_rfl) (by kernel_rfl) (fun _ _ _ h => h) (Or.inl ⟨by rfl, fun W hW => by go_simp⟩) S5 ?_
        simp only [Act.put, List.setIfInBounds_toArray, List.set_cons_zero, List.set_cons_succ]
        refine take_at 10 30 (v := .int .i64 s) rfl rfl (by kernel_rfl) (by kernel_rfl) (by kernel_rfl) (fun _ _ _ h => h) (Or.inl ⟨by rfl, fun W hW => by go_simp⟩) S5 ?_
        simp only [Act.put, List.setIfInBounds_toArray, List.set_cons_zero, List.set_cons_succ]
        refine take_at 12 32 (v := .int .i64 s) rfl rfl (by kernel_rfl) (by kernel_rfl) (by kernel_rfl) (fun _ _ _ h => h) (Or.inl ⟨by rfl, fun W hW => by go_simp⟩) S5 ?_
        simp only [Act.put, List.setIfInBounds_toArray, List.set_cons_zero, List.set_cons_succ]
        refine one_at_g 11 (by kernel_rfl) rfl (by rfl) ?_
        refine oper_call 31 rfl (by go_simp) (HC.out _) ?_
        rintro e w6 ⟨rfl, rfl⟩
        refine ⟨_, rfl, S5, ?_⟩
        simp only [Act.put, List.setIfInBounds_toArray, List.set_cons_zero, List.set_cons_succ]
        refine one_at_g 13 (by kernel_rfl) rfl (by rfl) ?_
        refine oper_call 33 rfl (by go_simp) (HD.out _) ?_
        rintro e w7 ⟨rfl, rfl⟩
        refine ⟨_, rfl, S5, ?_⟩
        simp only [Act.put, List.setIfInBounds_toArray, List.set_cons_zero, List.set_cons_succ]
        refine take_at 14 34 (v := .bool true) rfl rfl (by kernel_rfl) (by kernel_rfl) (by kernel_rfl) (fun _ _ _ h => h) (Or.inl ⟨by rfl, fun W hW => by go_simp⟩) S5 ?_
        simp only [Act.put, List.setIfInBounds_toArray, List.set_cons_zero, List.set_cons_succ]
        refine take_at 15 35 (v := .bool true) rfl rfl (by kernel_rfl) (by kernel_rfl) (by kernel_rfl) (fun _ _ _ h => h) (Or.inl ⟨by rfl, fun W hW => by go_simp⟩) S5 ?_
        simp only [Act.put, List.setIfInBounds_toArray, List.set_cons_zero, List.set_cons_succ]
        refine take_at 16 6 (v := .bool true) rfl rfl (by kernel_rfl) (by kernel_rfl) (by kernel_rfl) (fun _ _ _ h => h) (Or.inl ⟨by rfl, fun W hW => by go_simp⟩) S5 ?_
        simp only [Act.put, List.setIfInBounds_toArray, List.set_cons_zero, List.set_cons_succ]
        refine wpAnyH_done (by kernel_rfl) ?_ _
        have GE := hide (gr_trans HG3.out S5)
        go_wp2
        go_ret
        exact ⟨rfl, below_gr (gr_trans HB.out.gr GE.out)⟩
end
end Go.Proofs.Ytaafkefgpgoepaa
