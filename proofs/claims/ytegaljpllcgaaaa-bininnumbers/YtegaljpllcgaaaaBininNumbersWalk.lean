/- BininNumbers returns true for every numbers, and writes nothing that was there. Conditions: none. -/
import Derived.Test.YtegaljpllcgaaaaBinNumM
import Derived.Lib.SlBytesConst
namespace Go.Proofs.Ytegaljpllcgaaaa
set_option linter.unusedVariables false
open Go.RowKit

def cmA (d z ex cs : Nat) : Cv := ⟨10, ⟨#[107]⟩, [], 0, if (ex : Int) = 4294967295 then 0 else (ex : Int), cs, d, z, decide ((ex : Int) ≠ 4294967295), false⟩
def cmS (fl ex cs : Nat) : Cv := ⟨3, ⟨#[107]⟩, [118], fl, ex, cs, 0, 0, false, false⟩
theorem u32_wf {a : Int} (h : (Lit.int .u32 a).wf = true) : 0 ≤ a ∧ a < 4294967296 := by
  have e1 : IntKind.u32.min = 0 := rfl
  have e2 : IntKind.u32.max = 4294967295 := rfl
  simp [Lit.wf, e1, e2] at h
  omega
theorem keepC {w w' : World} {p : Addr} {v : Value} (hg : w.grownBy w' none) (h : w.cell? p = some v) : w'.cell? p = some v := ((below_gr hg).cell (World.block_lt_of_cell? w _ h)).trans h
theorem num_rows {w W : World} {P1 P2 d z ex cs op fl : Nat} {ca ta ka cb tb kb : Option Addr} {cc tc kc cd td kd : Nat} (h : TwoB w W P1 P2 (numA d z ex cs op) (numS fl ex cs op) ca ta ka cb tb kb cc tc kc cd td kd) :
    (∃ b o, ca = some ⟨b, o, none⟩ ∧ ∃ va vc, W.rangeAt b o (cmC (cmA d z ex cs) va vc).toList ∧ Bu W va 0 vc []) ∧ (∃ b o, cb = some ⟨b, o, none⟩ ∧ ∃ va vc, W.rangeAt b o (cmC (cmS fl ex cs) va vc).toList ∧ Bu W va 1 vc [118]) ∧ W.cell? ⟨P1, 0, none⟩ = some (.slice ca 1 cc) ∧ W.cell? ⟨P2, 0, none⟩ = some (.slice cb 1 cd) ∧ W.cell? ⟨P1, 4, none⟩ = some (.int .u32 op) := by
  obtain ⟨V, v1, v2, q1, q2⟩ := h.q
  refine ⟨?_, ?_, st_at h.b1 0 _ rfl, st_at h.b2 0 _ rfl, st_at h.b1 4 _ rfl⟩
  · exact cu_one (x := cmA d z ex cs) (q1.on v2).cmds
  · exact cu_one (x := cmS fl ex cs) (q2.on v2).cmds
theorem num_cells {W W14 W15 : World} {P1 P3 P4 d z ex cs op fl : Nat} {va vb : Option Addr} {vc vd : Nat} {t u : TypeId} (g : W.grownBy W15 none) (g2 : W14.grownBy W15 none) (X3 : W14.heap[P3]? = some (.cells (cmC (cmA d z ex cs) va vc) t (0, 0))) (X4 : W15.heap[P4]? = some (.cells (cmC (cmS fl ex cs) vb vd) u (0, 0))) (yo : W.cell? ⟨P1, 4, none⟩ = some (.int .u32 op)) (hv : Bu W vb 1 vd [118]) :
    W15.cell? ⟨P3, 4, none⟩ = some (.int .i64 (if (ex : Int) = 4294967295 then 0 else (ex : Int))) ∧ W15.cell? ⟨P3, 5, none⟩ = some (.int .u64 cs) ∧ W15.cell? ⟨P3, 6, none⟩ = some (.int .u64 d) ∧ W15.cell? ⟨P3, 7, none⟩ = some (.int .u64 z) ∧ W15.cell? ⟨P3, 8, none⟩ = some (.bool (decide ((ex : Int) ≠ 4294967295))) ∧
      W15.cell? ⟨P4, 1, none⟩ = some (.string ⟨#[107]⟩) ∧ W15.cell? ⟨P4, 2, none⟩ = some (.slice vb 1 vd) ∧ W15.cell? ⟨P4, 3, none⟩ = some (.int .u32 fl) ∧ W15.cell? ⟨P4, 4, none⟩ = some (.int .i64 ex) ∧ W15.cell? ⟨P1, 4, none⟩ = some (.int .u32 op) ∧ (convert 22 9 (.slice vb 1 vd)).run Try.prog W15 = .ok (.string ⟨#[118]⟩) W15 := by
  have X5 := (g2.block P3 (Array.getElem?_eq_some_iff.1 X3).1 (by simp)).trans X3
  have at_ : ∀ {p : Nat} {cs : Array Value} {t : TypeId}, W15.heap[p]? = some (.cells cs t (0, 0)) → ∀ j v, cs[j]? = some v → W15.cell? ⟨p, j, none⟩ = some v := fun h j v hv => by
    unfold World.cell?
    rw [h]
    exact hv
  exact ⟨at_ X5 4 _ rfl, at_ X5 5 _ rfl, at_ X5 6 _ rfl, at_ X5 7 _ rfl, at_ X5 8 _ rfl, at_ X4 1 _ rfl, at_ X4 2 _ rfl, at_ X4 3 _ rfl, at_ X4 4 _ rfl, keepC g yo, convU (hv.on (below_gr g))⟩
/-- The two requests put together. -/
theorem packA {w : World} {d z ex cs op : Nat} (h1 : d < 18446744073709551616) (h2 : z < 18446744073709551616) (h3 : ex < 4294967296) (h4 : cs < 18446744073709551616) (h5 : op < 4294967296) {a : Option Addr} {c : Nat} (hx : Bu w a (8 + 8 + 4) c (byL (be d 8) ++ byL (be z 8) ++ byL (be ex 4))) :
    Calls Try.prog 15 #[.int .i64 5, .slice a (8 + 8 + 4) c, .string ⟨#[107]⟩, .slice none 0 0, .int .u64 cs, .int .u32 op] w fun e w' => ∃ a n cap, e = .returned (.slice a n cap) ∧ n ≤ 100000 ∧ ∃ b, Bu w' a n cap b ∧ parse16 b = numA d z ex cs op ∧ w.grownBy w' none := by
  refine (packet_any (c := 5) (p := 5) (key := ⟨#[107]⟩) (v := []) rfl hx (bu_nil w) (by decide) (by decide) (by decide) h4 h5).mono fun e w' ⟨a, n, cap, e1, e2, e3, e4⟩ => ?_
  exact ⟨a, n, cap, e1, by rw [e2]; decide, _, e3, numA_is h1 h2 h3 h4 h5, e4⟩
theorem packS {w : World} {fl ex cs op : Nat} (h1 : fl < 4294967296) (h3 : ex < 4294967296) (h4 : cs < 18446744073709551616) (h5 : op < 4294967296) {a b : Option Addr} {c : Nat} (hx : Bu w a (4 + 4) c (byL (be fl 4) ++ byL (be ex 4))) (hv : Bu w b 1 1 [118]) :
    Calls Try.prog 15 #[.int .i64 1, .slice a (4 + 4) c, .string ⟨#[107]⟩, .slice b 1 1, .int .u64 cs, .int .u32 op] w fun e w' => ∃ a n cap, e = .returned (.slice a n cap) ∧ n ≤ 100000 ∧ ∃ b, Bu w' a n cap b ∧ parse16 b = numS fl ex cs op ∧ w.grownBy w' none := by
  refine (packet_any (c := 1) (p := 1) (key := ⟨#[107]⟩) (v := [118]) rfl hx hv (by decide) (by decide) (by decide) h4 h5).mono fun e w' ⟨a, n, cap, e1, e2, e3, e4⟩ => ?_
  exact ⟨a, n, cap, e1, by rw [e2]; decide, _, e3, numS_is h1 h3 h4 h5, e4⟩
section
variable {W : World}
set_option maxRecDepth 100000 in
set_option maxHeartbeats 8000000 in
theorem numbers_in {d z ex fl cs op : Nat} (h1 : d < 18446744073709551616) (h2 : z < 18446744073709551616) (h3 : ex < 4294967296) (h6 : fl < 4294967296) (h4 : cs < 18446744073709551616) (h5 : op < 4294967296) :
    Calls Try.prog 7 #[.int .u64 d, .int .u64 z, .int .u32 ex, .int .u32 fl, .int .u64 cs, .int .u32 op] W fun e W' => e = .returned (.bool true) ∧ Below W.heap.size W W' := by
  have HD := hide (fun W => rput_row d h1 8 (by decide) W)
  have HI := hide (fun W => rput_bu z h2 8 (by decide) W)
  have HE := hide (fun W => rput_bu ex (Nat.lt_trans h3 (by decide)) 4 (by decide) W)
  have HF := hide (fun W => rput_row fl (Nat.lt_trans h6 (by decide)) 4 (by decide) W)
  have HPA := hide (fun (w : World) (a : Option Addr) (c : Nat) (hx : Bu w a (8 + 8 + 4) c (byL (be d 8) ++ byL (be z 8) ++ byL (be ex 4))) => packA h1 h2 h3 h4 h5 hx)
  have HPS := hide (fun (w : World) (a : Option Addr) (c : Nat) (hx : Bu w a (4 + 4) c (byL (be fl 4) ++ byL (be ex 4))) {b : Option Addr} (hv : Bu w b 1 1 [118]) => packS h6 h3 h4 h5 hx hv)
  have TV : Hid (∀ W : World, Bu (W.alloc (.cells #[.int .u8 118] 5 (1, 2))) (some ⟨W.heap.size, 0, none⟩) 1 1 [118]) := fun W => lit_bu W [118] (1, 2) (by decide) (by decide)
  have kc := fun (w : World) (C : Array Value) (n c : Nat) => Lib.run_convert_bytes_const (P := Try.prog) w 22 5 C n c Try.underlying22 Try.underlying5
  have w1_ := u64_nat (n := ex) (Nat.lt_trans h3 (by decide))
  have w2_ := u64_nat (n := fl) (Nat.lt_trans h6 (by decide))
  have w3_ : IntKind.i64.wrap (ex : Int) = (ex : Int) := i64_id (by omega) (by omega)
  clear h1 h2 h3 h4 h5 h6
  go_enter Try.func7, Try.ntmps7
  go_wp2_with (first
    | (go_at_call 9; refine awake_any.mono ?_; rintro e w1 ⟨rfl, g1⟩; replace g1 := hide g1; have N0 : Hid (W = W) := rfl)
    | (have t := N0; clear t; go_at_call 14; refine (HD.out _).mono ?_; rintro e w2 ⟨v2, rfl, R2⟩; replace R2 := hide R2; clear N0 HD)
    | (have t := R2; clear t; go_at_call 14; refine (HI.out _).mono ?_; rintro e w3 ⟨g3, rfl, b3, q3⟩; have R3 := hide (R2.out.up q3); replace b3 := hide b3; clear R2 q3 HI)
    | (have t := R3; clear t; at_builtin; refine wpList_row2 R3.out rfl _ _ rfl rfl rfl b3.out (by decide) ?_; intro v4 w4 R4; replace R4 := hide R4; clear R3 b3)
    | (have t := R4; clear t; go_at_call 14; refine (HE.out _).mono ?_; rintro e w5 ⟨g5, rfl, b5, q5⟩; have R5 := hide (R4.out.up q5); replace b5 := hide b5; clear R4 q5)
    | (have t := R5; clear t; at_builtin; refine wpList_row2 R5.out rfl _ _ rfl rfl rfl b5.out (by decide) ?_; intro v6 w6 R6; obtain ⟨a6, c6, rfl, B6⟩ := R6.bu; have G6 := hide R6.gr; replace B6 := hide B6; clear R5 b5 R6)
    | (have t := B6; clear t; go_at_call 15; refine (HPA.out _ _ _ B6.out).mono ?_; rintro e w7 ⟨a7, n7, c7, rfl, l7, b7, B7, p7, q7⟩; replace l7 := hide l7; replace B7 := hide B7; replace p7 := hide p7; replace q7 := hide (gr_trans G6.out q7); clear B6 G6 HPA)
    | (have t := B7; clear t; go_at_call 11; refine (pcall q7.out B7.out l7.out p7.out).mono ?_; rintro e w8 ⟨c1, cc1, t1, tc1, k1, kc1, rfl, q1, g8⟩; obtain ⟨W8, hW8⟩ : ∃ W8, W8 = w8.alloc (.cells (stC (numA d z ex cs op) c1 cc1 t1 tc1 k1 kc1) 34) := ⟨_, rfl⟩; obtain ⟨P1, hP1⟩ : ∃ P1, P1 = w8.heap.size := ⟨_, rfl⟩; replace q1 := hide q1; replace g8 := hide g8; clear B7 l7 p7 q7; have N1 : Hid (W = W) := rfl)
    | (have t := N1; clear t; refine wpList_store_row rfl 34 _ _ rfl w8.heap.size (stC (numA d z ex cs op) c1 cc1 t1 tc1 k1 kc1) rfl rfl _ _ (World.alloc_heap_new w8 _) (step_size _ _ _ _ _ _ _) rfl (step_one _ _ _ _ _ _ _) ?_; rw [setRow_alloc, ← hW8, ← hP1]; clear N1; replace hW8 := hide hW8; replace hP1 := hide hP1; have N2 : Hid (W = W) := rfl)
    | (have t := N2; clear t; go_at_call 14; refine (HF.out _).mono ?_; rintro e w9 ⟨v9, rfl, R9⟩; replace R9 := hide R9; clear N2 HF)
    | (have t := R9; clear t; go_at_call 14; refine (HE.out _).mono ?_; rintro e w10 ⟨g10, rfl, b10, q10⟩; have R10 := hide (R9.out.up q10); replace b10 := hide b10; clear R9 q10 HE)
    | (have t := R10; clear t; at_builtin; refine wpList_row2 R10.out rfl _ _ rfl rfl rfl b10.out (by decide) ?_; intro v11 w11 R11; obtain ⟨a11, c11, rfl, B11⟩ := R11.bu; have G11 := hide R11.gr; replace B11 := hide B11; clear R10 b10 R11)
    | (have t := B11; clear t; go_at_call 15; refine (HPS.out _ _ _ (B11.out.alloc _) (TV.out w11)).mono ?_; rintro e w12 ⟨a12, n12, c12, rfl, l12, b12, B12, p12, q12⟩; replace l12 := hide l12; replace B12 := hide B12; replace p12 := hide p12; replace q12 := hide (gr_trans (gr_trans G11.out (World.grownBy_alloc _ _ none)) q12); clear B11 G11 HPS TV)
    | (have t := B12; clear t; go_at_call 11; refine (pcall q12.out B12.out l12.out p12.out).mono ?_; rintro e w13 ⟨c2, cc2, t2, tc2, k2, kc2, rfl, q2, g13⟩; obtain ⟨W13, hW13⟩ : ∃ W13, W13 = w13.alloc (.cells (stC (numS fl ex cs op) c2 cc2 t2 tc2 k2 kc2) 34) := ⟨_, rfl⟩; obtain ⟨P2, hP2⟩ : ∃ P2, P2 = w13.heap.size := ⟨_, rfl⟩; replace q2 := hide q2; replace g13 := hide g13; clear B12 l12 p12 q12; have N3 : Hid (W = W) := rfl)
    | (have t := N3; clear t; refine wpList_store_row rfl 34 _ _ rfl w13.heap.size (stC (numS fl ex cs op) c2 cc2 t2 tc2 k2 kc2) rfl rfl _ _ (World.alloc_heap_new w13 _) (step_size _ _ _ _ _ _ _) rfl (step_one _ _ _ _ _ _ _) ?_; rw [setRow_alloc, ← hW13, ← hP2]; clear N3; have T2 := twoB_of q1.out g8.out hW8.out hP1.out q2.out g13.out hW13 hP2; clear hW13 hP2 hW8 hP1 q1 q2 g8 g13; obtain ⟨⟨ba, oa, rfl, va, vc, r1, _⟩, ⟨bb, ob, rfl, vb, vd, r2, v2_⟩, y0, z0, yo⟩ := num_rows T2; obtain ⟨W14, hW14⟩ : ∃ W14, W14 = W13.alloc (.cells (cmC (cmA d z ex cs) va vc) 39) := ⟨_, rfl⟩; obtain ⟨P3, hP3⟩ : ∃ P3, P3 = W13.heap.size := ⟨_, rfl⟩; have G14 : W13.grownBy W14 none := (by rw [hW14]; exact World.grownBy_alloc _ _ _); have X3 : W14.heap[P3]? = some (.cells (cmC (cmA d z ex cs) va vc) 39 (0, 0)) := (by rw [hW14, hP3]; exact World.alloc_heap_new _ _); have r2b := rng_up G14 r2; obtain ⟨W15, hW15⟩ : ∃ W15, W15 = W14.alloc (.cells (cmC (cmS fl ex cs) vb vd) 39) := ⟨_, rfl⟩; obtain ⟨P4, hP4⟩ : ∃ P4, P4 = W14.heap.size := ⟨_, rfl⟩; have G15 : W14.grownBy W15 none := (by rw [hW15]; exact World.grownBy_alloc _ _ _); have X4 : W15.heap[P4]? = some (.cells (cmC (cmS fl ex cs) vb vd) 39 (0, 0)) := (by rw [hW15, hP4]; exact World.alloc_heap_new _ _); have cf := num_cells (gr_trans G14 G15) G15 X3 X4 yo v2_; have z0b := keepC G14 z0; have y0b := keepC G14 y0; replace cf := hide cf; have GE := hide (gr_trans T2.gr (gr_trans G14 G15)); clear T2 yo v2_ G14 G15 X3 X4 r2; have N4 : Hid (W = W) := rfl)
    | (have t := N4; clear t; refine wpList_load_mid rfl 39 _ rfl ba oa rfl (cmC (cmA d z ex cs) va vc).toList _ r1 Try.underlying39 rfl (by rw [cmd_size (cmA d z ex cs) va vc, Array.length_toList]) ?_; clear r1)
    | (have t := N4; clear t; refine wpList_store_row rfl 39 _ _ rfl W13.heap.size (cmC (cmA d z ex cs) va vc) rfl rfl _ _ (World.alloc_heap_new W13 _) (cmd_size _ _ _) rfl (cmd_one _ _ _) ?_; rw [setRow_alloc, ← hW14, ← hP3]; clear hW14 hP3 N4; have N5 : Hid (W = W) := rfl)
    | (have t := N5; clear t; refine wpList_load_mid rfl 39 _ rfl bb ob rfl (cmC (cmS fl ex cs) vb vd).toList _ r2b Try.underlying39 rfl (by rw [cmd_size (cmS fl ex cs) vb vd, Array.length_toList]) ?_; clear r2b)
    | (have t := N5; clear t; refine wpList_store_row rfl 39 _ _ rfl W14.heap.size (cmC (cmS fl ex cs) vb vd) rfl rfl _ _ (World.alloc_heap_new W14 _) (cmd_size _ _ _) rfl (cmd_one _ _ _) ?_; rw [setRow_alloc, ← hW15, ← hP4]; clear hW15 hP4 N5 y0 z0 y0b z0b; obtain ⟨f4, f5, f6, f7, f8, h1, h2, h3, h4, fo, fv⟩ := cf.out; clear cf))
  all_goals go_ret
  all_goals exact ⟨by first | rfl | (simp; done) | (exfalso; simp_all; done), Bt (below_gr g1.out) (below_gr GE.out)⟩
end
theorem bininNumbers_walk (a0 : Int) (w0 : (Lit.int .u64 a0).wf = true) (a1 : Int) (w1 : (Lit.int .u64 a1).wf = true) (a2 : Int) (w2 : (Lit.int .u32 a2).wf = true) (a3 : Int) (w3 : (Lit.int .u32 a3).wf = true) (a4 : Int) (w4 : (Lit.int .u64 a4).wf = true) (a5 : Int) (w5 : (Lit.int .u32 a5).wf = true) (W : World) :
    Calls Try.prog 7 #[.int .u64 a0, .int .u64 a1, .int .u32 a2, .int .u32 a3, .int .u64 a4, .int .u32 a5] W fun e W' => e = .returned (.bool true) ∧ Below W.heap.size W W' := by
  have b0 := u64_wf w0
  have b1 := u64_wf w1
  have b2 := u32_wf w2
  have b3 := u32_wf w3
  have b4 := u64_wf w4
  have b5 := u32_wf w5
  obtain ⟨d, rfl⟩ : ∃ d : Nat, a0 = (d : Int) := ⟨a0.toNat, by omega⟩
  obtain ⟨z, rfl⟩ : ∃ d : Nat, a1 = (d : Int) := ⟨a1.toNat, by omega⟩
  obtain ⟨ex, rfl⟩ : ∃ d : Nat, a2 = (d : Int) := ⟨a2.toNat, by omega⟩
  obtain ⟨fl, rfl⟩ : ∃ d : Nat, a3 = (d : Int) := ⟨a3.toNat, by omega⟩
  obtain ⟨cs, rfl⟩ : ∃ d : Nat, a4 = (d : Int) := ⟨a4.toNat, by omega⟩
  obtain ⟨op, rfl⟩ : ∃ d : Nat, a5 = (d : Int) := ⟨a5.toNat, by omega⟩
  exact numbers_in (by omega) (by omega) (by omega) (by omega) (by omega) (by omega)
end Go.Proofs.Ytegaljpllcgaaaa
