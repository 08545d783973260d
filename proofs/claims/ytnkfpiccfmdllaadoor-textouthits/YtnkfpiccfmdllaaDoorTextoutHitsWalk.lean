/- TextoutHits returns true for every key, every result and either way, and writes nothing that was there. Conditions: the listed variables hold what the program's text lays. -/
import Derived.Test.YtnkfpiccfmdllaaDoorOutHitM
namespace Go.Proofs.YtnkfpiccfmdllaaDoor
set_option linter.unusedVariables false
open Go.RowKit Go.Shelf

section
variable {W : World} {key : ByteArray} {x : Rv} {va : Option Addr} {vc : Nat} {cas : Bool}
set_option maxRecDepth 100000 in
set_option maxHeartbeats 4000000 in
theorem textoutHits_walk (W : World) (key : ByteArray) (hks : key.size ≤ 140737488351232) (x : Rv) (va : Option Addr) (vc : Nat) (hxo : x.ok) (hb : Bu W va x.val.length vc x.val) (cas : Bool) (hL : Laid W) :
    Calls Tryd.prog 4 #[.string key, .agg (rsC x va vc), .bool cas] W fun e W' => e = .returned (.bool true) ∧ Below W.heap.size W W' := by
  have B := Box.new W x va vc
  obtain ⟨V, hV⟩ : ∃ V, V = W.alloc (.cells (rsC x va vc) 38) := ⟨_, rfl⟩
  obtain ⟨q, hqq⟩ : ∃ q, q = W.heap.size := ⟨_, rfl⟩
  rw [← hV, ← hqq] at B
  have HB := hide B
  have hqw : Hid (q = W.heap.size) := hqq
  simp only [rsC] at hV ⊢
  clear hks
  by_cases h1 : 1000 < key.size
  · have i1 : (1000 : Int) < (key.size : Int) := by omega
    go_enter Tryd.func4, Tryd.ntmps4
    go_upto_region 1 with fail
    rw [← hV, ← hqq]
    clear hV hqq B
    go_wp2_with (go_at_call 7; refine (awake_any (hL.up HB.out.gr)).mono ?_; rintro e w2 ⟨rfl, g2⟩; have B2 := hide (HB.out.on g2); clear g2)
    go_ret
    exact ⟨rfl, below_gr B2.out.gr⟩
  have i1 : ¬ (1000 : Int) < (key.size : Int) := by omega
  by_cases h2 : 1000 < x.val.length
  · have i2 : (1000 : Int) < (x.val.length : Int) := by omega
    go_enter Tryd.func4, Tryd.ntmps4
    go_upto_region 1 with fail
    rw [← hV, ← hqq]
    clear hV hqq B
    go_wp2_with (go_at_call 7; refine (awake_any (hL.up HB.out.gr)).mono ?_; rintro e w2 ⟨rfl, g2⟩; have B2 := hide (HB.out.on g2); have cv := B2.out.val; clear g2)
    go_ret
    exact ⟨rfl, below_gr B2.out.gr⟩
  have i2 : ¬ (1000 : Int) < (x.val.length : Int) := by omega
  go_enter Tryd.func4, Tryd.ntmps4
  go_upto_region 1 with fail
  rw [← hV, ← hqq]
  clear hV hqq B
  go_upto_region 5 with (go_at_call 7; refine (awake_any (hL.up HB.out.gr)).mono ?_; rintro e w2 ⟨rfl, g2⟩; have B2 := hide (HB.out.on g2); have cv := B2.out.val; have cs := B2.out.s; have cf : w2.frozen? ⟨q, 0, none⟩ = false := frozen_of_row _ _ _ _ _ B2.out.row; clear g2)
  have BP := B2.out.put
  clear cv cs cf
  generalize w2.setCell ⟨q, 0, none⟩ (.int .i64 0) = w3 at *
  have hk1 : key.size ≤ 1000 := by omega
  have hv1 : x.val.length ≤ 1000 := by omega
  have B3 := hide BP
  obtain ⟨hq, hx⟩ := kq_start w3 key cas hxo (hb.on (below_gr BP.gr))
  have HE := hide (encode_any (hL.up (gr_trans BP.gr (kqW_gr w3 key cas x va vc))) hq hx (kq_few hk1 hv1))
  have HG := hide (kqW_gr w3 key cas x va vc)
  have HX := hide (kq_enc key cas x)
  obtain ⟨X, hX⟩ : ∃ X, X = encL (keyQ key cas) [hitR x] := ⟨_, rfl⟩
  rw [← hX] at HE HX
  have R3 : Hid (w3.heap[q]? = some (.cells #[.int .i64 0, .slice va x.val.length vc, .int .u32 x.fl, .int .u64 x.cas, .int .i64 x.ttl, .int .u64 x.num, .bool x.st, .bool x.won, .bool x.lost] 38 (0, 0))) := BP.row
  have R5 : Hid (∀ W', w3.grownBy W' none → W'.heap[q]? = some (.cells #[.int .i64 0, .slice va x.val.length vc, .int .u32 x.fl, .int .u64 x.cas, .int .i64 x.ttl, .int .u64 x.num, .bool x.st, .bool x.won, .bool x.lost] 38 (0, 0))) := fun W' hg => (hg.block q BP.lt (by simp)).trans R3.out
  clear hX hq hx h1 h2 BP
  go_upto_region 7 with (first
    | (refine wpList_load_row rfl 38 _ rfl q rfl _ _ _ _ (R5.out _ (gr_trans (World.grownBy_alloc _ _ none) (World.grownBy_alloc _ _ none))) Tryd.underlying38 rfl (res_size (hitR x) va vc) ?_)
    | (go_at_call 9; refine Calls.mono HE.out ?_; rintro e w7 ⟨v7, rfl, o7, g7⟩; replace o7 := hide o7; replace g7 := hide g7))
  have B7 := hide (B3.out.on (gr_trans HG.out g7.out))
  have HS1 := hide (fun W => rshow_any hxo.f0 (by have := hxo.f1; omega) W)
  have HS2 := hide (fun W => rshow_any (x := (x.val.length : Int)) (by omega) (by omega) W)
  have HS3 := hide (fun W => rshow_any hxo.c0 hxo.c1 W)
  have CF := hide (conv_u64 x.fl hxo.f0 (by have := hxo.f1; omega))
  have CV := hide (conv_u64 (x.val.length : Int) (by omega) (by omega))
  have L1 := hide (cat_lims hxo hk1 hv1)
  have L2 := hide (cat_lims2 hxo hk1 hv1)
  have HL1 := hide (headT_len hxo hk1 hv1 false)
  have HL2 := hide (headT_len hxo hk1 hv1 true)
  have HN := hide (head_no key x)
  have HY := hide (head_yes key x)
  have HB0 := hide hb
  have HV1 := hide hv1
  clear i1 i2 hk1 hv1 hb hxo
  refine region_cl (C := fun W' => w7.grownBy W' none) (by kernel_rfl) (by kernel_rfl) (gr_of_below (Below.drew (Below.refl _ _))) ?_
  refine class_put (a' := ?fra0) (.string key) rfl (fun W hC => by unfold Oper.quietAt; go_simp) (by simp only [Act.put, List.setIfInBounds_toArray, List.set_cons_zero, List.set_cons_succ]; rfl) ?nxa0
  refine class_put (a' := ?fra1) (.string ((⟨#[86, 65, 76, 85, 69, 32]⟩ : ByteArray) ++ key)) rfl (fun W hC => by have l := L1.out.1; unfold Oper.quietAt; go_simp) (by simp only [Act.put, List.setIfInBounds_toArray, List.set_cons_zero, List.set_cons_succ]; rfl) ?nxa1
  refine class_put (a' := ?fra2) (.string ((⟨#[86, 65, 76, 85, 69, 32]⟩ : ByteArray) ++ key ++ (⟨#[32]⟩ : ByteArray))) rfl (fun W hC => by have l := L1.out.2.1; unfold Oper.quietAt; go_simp) (by simp only [Act.put, List.setIfInBounds_toArray, List.set_cons_zero, List.set_cons_succ]; rfl) ?nxa2
  refine class_put (a' := ?fra3) (.pointer (some ⟨q, 2, none⟩)) rfl (fun W hC => by unfold Oper.quietAt; go_simp) (by simp only [Act.put, List.setIfInBounds_toArray, List.set_cons_zero, List.set_cons_succ]; rfl) ?nxa3
  refine class_put (a' := ?fra4) (.int .u32 x.fl) rfl (fun W hC => by have c := (B7.out.on hC).fl; change W.cell? ⟨q, 2, none⟩ = some (.int .u32 x.fl) at c; unfold Oper.quietAt; go_simp) (by simp only [Act.put, List.setIfInBounds_toArray, List.set_cons_zero, List.set_cons_succ]; rfl) ?nxa4
  refine class_put (a' := ?fra5) (.int .u64 x.fl) rfl (fun W hC => by have c := CF.out; unfold Oper.quietAt; go_simp) (by simp only [Act.put, List.setIfInBounds_toArray, List.set_cons_zero, List.set_cons_succ]; rfl) ?nxa5
  refine class_put (a' := ?fra6) (.string (mkS (showL x.fl))) rfl (fun W hC => by unfold Oper.quietAt; go_simp; exact (HS1.out W).mono fun e w' h => ⟨h.1, gr_trans hC h.2⟩) (by simp only [Act.put, List.setIfInBounds_toArray, List.set_cons_zero, List.set_cons_succ]; rfl) ?nxa6
  refine class_put (a' := ?fra7) (.string ((⟨#[86, 65, 76, 85, 69, 32]⟩ : ByteArray) ++ key ++ (⟨#[32]⟩ : ByteArray) ++ mkS (showL x.fl))) rfl (fun W hC => by have l := L1.out.2.2.1; unfold Oper.quietAt; go_simp) (by simp only [Act.put, List.setIfInBounds_toArray, List.set_cons_zero, List.set_cons_succ]; rfl) ?nxa7
  refine class_put (a' := ?fra8) (.string ((⟨#[86, 65, 76, 85, 69, 32]⟩ : ByteArray) ++ key ++ (⟨#[32]⟩ : ByteArray) ++ mkS (showL x.fl) ++ (⟨#[32]⟩ : ByteArray))) rfl (fun W hC => by have l := L1.out.2.2.2.1; unfold Oper.quietAt; go_simp) (by simp only [Act.put, List.setIfInBounds_toArray, List.set_cons_zero, List.set_cons_succ]; rfl) ?nxa8
  refine class_put (a' := ?fra9) (.pointer (some ⟨q, 1, none⟩)) rfl (fun W hC => by unfold Oper.quietAt; go_simp) (by simp only [Act.put, List.setIfInBounds_toArray, List.set_cons_zero, List.set_cons_succ]; rfl) ?nxa9
  refine class_put (a' := ?fra10) (.slice va x.val.length vc) rfl (fun W hC => by have c := (B7.out.on hC).val; change W.cell? ⟨q, 1, none⟩ = some (.slice va x.val.length vc) at c; unfold Oper.quietAt; go_simp) (by simp only [Act.put, List.setIfInBounds_toArray, List.set_cons_zero, List.set_cons_succ]; rfl) ?nxa10
  refine class_put (a' := ?fra11) (.int .i64 (x.val.length : Int)) rfl (fun W hC => by unfold Oper.quietAt; go_simp) (by simp only [Act.put, List.setIfInBounds_toArray, List.set_cons_zero, List.set_cons_succ]; rfl) ?nxa11
  refine class_put (a' := ?fra12) (.int .u64 (x.val.length : Int)) rfl (fun W hC => by have c := CV.out; unfold Oper.quietAt; go_simp) (by simp only [Act.put, List.setIfInBounds_toArray, List.set_cons_zero, List.set_cons_succ]; rfl) ?nxa12
  refine class_put (a' := ?fra13) (.string (mkS (showL x.val.length))) rfl (fun W hC => by unfold Oper.quietAt; go_simp; exact (HS2.out W).mono fun e w' h => ⟨h.1, gr_trans hC h.2⟩) (by simp only [Act.put, List.setIfInBounds_toArray, List.set_cons_zero, List.set_cons_succ]; rfl) ?nxa13
  refine class_put (a' := ?fra14) (.string ((⟨#[86, 65, 76, 85, 69, 32]⟩ : ByteArray) ++ key ++ (⟨#[32]⟩ : ByteArray) ++ mkS (showL x.fl) ++ (⟨#[32]⟩ : ByteArray) ++ mkS (showL x.val.length))) rfl (fun W hC => by have l := L1.out.2.2.2.2; unfold Oper.quietAt; go_simp) (by simp only [Act.put, List.setIfInBounds_toArray, List.set_cons_zero, List.set_cons_succ]; rfl) ?nxa14
  refine class_put (a' := ?fra15) (.string ((⟨#[86, 65, 76, 85, 69, 32]⟩ : ByteArray) ++ key ++ (⟨#[32]⟩ : ByteArray) ++ mkS (showL x.fl) ++ (⟨#[32]⟩ : ByteArray) ++ mkS (showL x.val.length))) rfl (fun W hC => by unfold Oper.quietAt; go_simp) (by simp only [Act.put, List.setIfInBounds_toArray, List.set_cons_zero, List.set_cons_succ]; rfl) ?nxa15
  refine wpQuiet_nil ?_
  intro w8 g8
  have G8 := hide g8
  clear g8
  rw [HN.out]
  cases cas with
  | false =>
    go_upto_region 10 with fail
    obtain ⟨g, c7, h, A, A2, E, L, hXL, rfl, hs0, ⟨n1, n2, n3, n4, n5, n6, n7, n8, n9, n10, n11, n12⟩, HC1, HC2, HC4⟩ := kq_all HX.out HL1.out HV1.out o7.out
    have HC3 : Hid (∀ W', w7.grownBy W' none → (convert 32 9 (.slice va x.val.length vc)).run Tryd.prog W' = .ok (.string (mkS x.val)) W') := fun W' hg => conv_bu (HB0.out.on (below_gr (gr_trans B7.out.gr hg)))
    have m2 := (i64_wrap _).trans n2
    have m4 := (i64_wrap _).trans n4
    have Q2 : Hid (((mkS [69, 78, 68, 13, 10]).toList == [69, 78, 68, 13, 10]) = true) := by show _ = _; rw [mkS_toList]; decide
    obtain ⟨S, hS⟩ : ∃ S, S = mkS (headT key x false) := ⟨_, rfl⟩
    rw [← hS] at HC1 hs0
    rw [← hS]
    replace HC1 := hide HC1
    replace HC2 := hide HC2
    replace HC4 := hide HC4
    have cw := (B7.out.on G8.out).val
    change w8.cell? ⟨q, 1, none⟩ = some (.slice va x.val.length vc) at cw
    clear hS HY HN HL1 HL2 o7 HE HX hXL
    go_upto_region 13 with fail
    refine region_cl (C := fun W' => w7.grownBy W' none) (by kernel_rfl) (by kernel_rfl) (gr_trans G8.out (gr_of_below (Below.drew (Below.refl _ _)))) ?_
    refine class_put (a' := ?frbf0) (.slice (some ⟨g, 0, none⟩) L c7) rfl (fun W hC => by unfold Oper.quietAt; go_simp) (by simp only [Act.put, List.setIfInBounds_toArray, List.set_cons_zero, List.set_cons_succ]; rfl) ?nxbf0
    refine class_put (a' := ?frbf1) (.string S) rfl (fun W hC => by unfold Oper.quietAt; go_simp) (by simp only [Act.put, List.setIfInBounds_toArray, List.set_cons_zero, List.set_cons_succ]; rfl) ?nxbf1
    refine class_put (a' := ?frbf2) (.int .i64 (h : Int)) rfl (fun W hC => by unfold Oper.quietAt; go_simp) (by simp only [Act.put, List.setIfInBounds_toArray, List.set_cons_zero, List.set_cons_succ]; rfl) ?nxbf2
    refine class_put (a' := ?frbf3) (.slice (some ⟨g, 0, none⟩) h c7) rfl (fun W hC => by unfold Oper.quietAt; go_simp) (by simp only [Act.put, List.setIfInBounds_toArray, List.set_cons_zero, List.set_cons_succ]; rfl) ?nxbf3
    refine class_put (a' := ?frbf4) (.string S) rfl (fun W hC => by have c := HC1.out W hC; unfold Oper.quietAt; go_simp) (by simp only [Act.put, List.setIfInBounds_toArray, List.set_cons_zero, List.set_cons_succ]; rfl) ?nxbf4
    refine class_put (a' := ?frbf5) (.string S) rfl (fun W hC => by unfold Oper.quietAt; go_simp) (by simp only [Act.put, List.setIfInBounds_toArray, List.set_cons_zero, List.set_cons_succ]; rfl) ?nxbf5
    refine class_put (a' := ?frbf6) (.bool true) rfl (fun W hC => by unfold Oper.quietAt; go_simp) (by simp only [Act.put, List.setIfInBounds_toArray, List.set_cons_zero, List.set_cons_succ]; rfl) ?nxbf6
    refine class_put (a' := ?frbf7) (.bool true) rfl (fun W hC => by unfold Oper.quietAt; go_simp) (by simp only [Act.put, List.setIfInBounds_toArray, List.set_cons_zero, List.set_cons_succ]; rfl) ?nxbf7
    refine class_put (a' := ?frbf8) (.slice (some ⟨g, 0, none⟩) L c7) rfl (fun W hC => by unfold Oper.quietAt; go_simp) (by simp only [Act.put, List.setIfInBounds_toArray, List.set_cons_zero, List.set_cons_succ]; rfl) ?nxbf8
    refine class_put (a' := ?frbf9) (.int .i64 (A : Int)) rfl (fun W hC => by unfold Oper.quietAt; go_simp) (by simp only [Act.put, List.setIfInBounds_toArray, List.set_cons_zero, List.set_cons_succ]; rfl) ?nxbf9
    refine class_put (a' := ?frbf10) (.int .i64 (A : Int)) rfl (fun W hC => by unfold Oper.quietAt; go_simp) (by simp only [Act.put, List.setIfInBounds_toArray, List.set_cons_zero, List.set_cons_succ]; rfl) ?nxbf10
    refine class_put (a' := ?frbf11) (.pointer (some ⟨q, 1, none⟩)) rfl (fun W hC => by unfold Oper.quietAt; go_simp) (by simp only [Act.put, List.setIfInBounds_toArray, List.set_cons_zero, List.set_cons_succ]; rfl) ?nxbf11
    refine class_put (a' := ?frbf12) (.slice va x.val.length vc) rfl (fun W hC => by have c := (B7.out.on hC).val; change W.cell? ⟨q, 1, none⟩ = some (.slice va x.val.length vc) at c; unfold Oper.quietAt; go_simp) (by simp only [Act.put, List.setIfInBounds_toArray, List.set_cons_zero, List.set_cons_succ]; rfl) ?nxbf12
    refine class_put (a' := ?frbf13) (.int .i64 (x.val.length : Int)) rfl (fun W hC => by unfold Oper.quietAt; go_simp) (by simp only [Act.put, List.setIfInBounds_toArray, List.set_cons_zero, List.set_cons_succ]; rfl) ?nxbf13
    refine class_put (a' := ?frbf14) (.int .i64 (A2 : Int)) rfl (fun W hC => by unfold Oper.quietAt; go_simp) (by simp only [Act.put, List.setIfInBounds_toArray, List.set_cons_zero, List.set_cons_succ]; rfl) ?nxbf14
    refine class_put (a' := ?frbf15) (.slice (some ⟨g, A, none⟩) x.val.length (c7 - A)) rfl (fun W hC => by unfold Oper.quietAt; go_simp) (by simp only [Act.put, List.setIfInBounds_toArray, List.set_cons_zero, List.set_cons_succ]; rfl) ?nxbf15
    refine class_put (a' := ?frbf16) (.string (mkS x.val)) rfl (fun W hC => by have c := HC2.out W hC; unfold Oper.quietAt; go_simp) (by simp only [Act.put, List.setIfInBounds_toArray, List.set_cons_zero, List.set_cons_succ]; rfl) ?nxbf16
    refine class_put (a' := ?frbf17) (.pointer (some ⟨q, 1, none⟩)) rfl (fun W hC => by unfold Oper.quietAt; go_simp) (by simp only [Act.put, List.setIfInBounds_toArray, List.set_cons_zero, List.set_cons_succ]; rfl) ?nxbf17
    refine class_put (a' := ?frbf18) (.slice va x.val.length vc) rfl (fun W hC => by have c := (B7.out.on hC).val; change W.cell? ⟨q, 1, none⟩ = some (.slice va x.val.length vc) at c; unfold Oper.quietAt; go_simp) (by simp only [Act.put, List.setIfInBounds_toArray, List.set_cons_zero, List.set_cons_succ]; rfl) ?nxbf18
    refine class_put (a' := ?frbf19) (.string (mkS x.val)) rfl (fun W hC => by have c := HC3.out W hC; unfold Oper.quietAt; go_simp) (by simp only [Act.put, List.setIfInBounds_toArray, List.set_cons_zero, List.set_cons_succ]; rfl) ?nxbf19
    refine class_put (a' := ?frbf20) (.bool true) rfl (fun W hC => by unfold Oper.quietAt; go_simp) (by simp only [Act.put, List.setIfInBounds_toArray, List.set_cons_zero, List.set_cons_succ]; rfl) ?nxbf20
    refine class_put (a' := ?frbf21) (.bool true) rfl (fun W hC => by unfold Oper.quietAt; go_simp) (by simp only [Act.put, List.setIfInBounds_toArray, List.set_cons_zero, List.set_cons_succ]; rfl) ?nxbf21
    refine class_put (a' := ?frbf22) (.bool true) rfl (fun W hC => by unfold Oper.quietAt; go_simp) (by simp only [Act.put, List.setIfInBounds_toArray, List.set_cons_zero, List.set_cons_succ]; rfl) ?nxbf22
    refine class_put (a' := ?frbf23) (.slice (some ⟨g, 0, none⟩) L c7) rfl (fun W hC => by unfold Oper.quietAt; go_simp) (by simp only [Act.put, List.setIfInBounds_toArray, List.set_cons_zero, List.set_cons_succ]; rfl) ?nxbf23
    refine class_put (a' := ?frbf24) (.slice (some ⟨g, 0, none⟩) L c7) rfl (fun W hC => by unfold Oper.quietAt; go_simp) (by simp only [Act.put, List.setIfInBounds_toArray, List.set_cons_zero, List.set_cons_succ]; rfl) ?nxbf24
    refine class_put (a' := ?frbf25) (.int .i64 (L : Int)) rfl (fun W hC => by unfold Oper.quietAt; go_simp) (by simp only [Act.put, List.setIfInBounds_toArray, List.set_cons_zero, List.set_cons_succ]; rfl) ?nxbf25
    refine class_put (a' := ?frbf26) (.int .i64 (E : Int)) rfl (fun W hC => by unfold Oper.quietAt; go_simp) (by simp only [Act.put, List.setIfInBounds_toArray, List.set_cons_zero, List.set_cons_succ]; rfl) ?nxbf26
    refine class_put (a' := ?frbf27) (.slice (some ⟨g, E, none⟩) 5 (c7 - E)) rfl (fun W hC => by unfold Oper.quietAt; go_simp) (by simp only [Act.put, List.setIfInBounds_toArray, List.set_cons_zero, List.set_cons_succ]; rfl) ?nxbf27
    refine class_put (a' := ?frbf28) (.string (mkS [69, 78, 68, 13, 10])) rfl (fun W hC => by have c := HC4.out W hC; unfold Oper.quietAt; go_simp) (by simp only [Act.put, List.setIfInBounds_toArray, List.set_cons_zero, List.set_cons_succ]; rfl) ?nxbf28
    refine class_put (a' := ?frbf29) (.bool true) rfl (fun W hC => by have c := Q2.out; unfold Oper.quietAt; go_simp) (by simp only [Act.put, List.setIfInBounds_toArray, List.set_cons_zero, List.set_cons_succ]; rfl) ?nxbf29
    refine class_put (a' := ?frbf30) (.bool true) rfl (fun W hC => by unfold Oper.quietAt; go_simp) (by simp only [Act.put, List.setIfInBounds_toArray, List.set_cons_zero, List.set_cons_succ]; rfl) ?nxbf30
    refine class_put (a' := ?frbf31) (.bool true) rfl (fun W hC => by unfold Oper.quietAt; go_simp) (by simp only [Act.put, List.setIfInBounds_toArray, List.set_cons_zero, List.set_cons_succ]; rfl) ?nxbf31
    refine wpQuiet_nil ?_
    intro w10 g10
    have GE := hide (gr_trans B7.out.gr g10)
    clear g10
    go_wp2
    go_ret
    exact ⟨rfl, below_gr GE.out⟩
  | true =>
    obtain ⟨l1, l2⟩ := L2.out
    have cc := (B7.out.on G8.out).cas
    change w8.cell? ⟨q, 3, none⟩ = some (.int .u64 x.cas) at cc
    go_upto_region 10 with (go_at_call 10; refine (HS3.out _).mono ?_; rintro e w9 ⟨rfl, g9⟩; have G9 := hide (gr_trans G8.out g9); clear g9 cc)
    rw [HY.out]
    clear l1 l2
    obtain ⟨g, c7, h, A, A2, E, L, hXL, rfl, hs0, ⟨n1, n2, n3, n4, n5, n6, n7, n8, n9, n10, n11, n12⟩, HC1, HC2, HC4⟩ := kq_all HX.out HL2.out HV1.out o7.out
    have HC3 : Hid (∀ W', w7.grownBy W' none → (convert 32 9 (.slice va x.val.length vc)).run Tryd.prog W' = .ok (.string (mkS x.val)) W') := fun W' hg => conv_bu (HB0.out.on (below_gr (gr_trans B7.out.gr hg)))
    have m2 := (i64_wrap _).trans n2
    have m4 := (i64_wrap _).trans n4
    have Q2 : Hid (((mkS [69, 78, 68, 13, 10]).toList == [69, 78, 68, 13, 10]) = true) := by show _ = _; rw [mkS_toList]; decide
    obtain ⟨S, hS⟩ : ∃ S, S = mkS (headT key x true) := ⟨_, rfl⟩
    rw [← hS] at HC1 hs0
    rw [← hS]
    replace HC1 := hide HC1
    replace HC2 := hide HC2
    replace HC4 := hide HC4
    have cw := (B7.out.on G9.out).val
    change w9.cell? ⟨q, 1, none⟩ = some (.slice va x.val.length vc) at cw
    clear hS HY HN HL1 HL2 o7 HE HX hXL
    go_upto_region 13 with fail
    refine region_cl (C := fun W' => w7.grownBy W' none) (by kernel_rfl) (by kernel_rfl) (gr_trans G9.out (gr_of_below (Below.drew (Below.refl _ _)))) ?_
    refine class_put (a' := ?frbt0) (.slice (some ⟨g, 0, none⟩) L c7) rfl (fun W hC => by unfold Oper.quietAt; go_simp) (by simp only [Act.put, List.setIfInBounds_toArray, List.set_cons_zero, List.set_cons_succ]; rfl) ?nxbt0
    refine class_put (a' := ?frbt1) (.string S) rfl (fun W hC => by unfold Oper.quietAt; go_simp) (by simp only [Act.put, List.setIfInBounds_toArray, List.set_cons_zero, List.set_cons_succ]; rfl) ?nxbt1
    refine class_put (a' := ?frbt2) (.int .i64 (h : Int)) rfl (fun W hC => by unfold Oper.quietAt; go_simp) (by simp only [Act.put, List.setIfInBounds_toArray, List.set_cons_zero, List.set_cons_succ]; rfl) ?nxbt2
    refine class_put (a' := ?frbt3) (.slice (some ⟨g, 0, none⟩) h c7) rfl (fun W hC => by unfold Oper.quietAt; go_simp) (by simp only [Act.put, List.setIfInBounds_toArray, List.set_cons_zero, List.set_cons_succ]; rfl) ?nxbt3
    refine class_put (a' := ?frbt4) (.string S) rfl (fun W hC => by have c := HC1.out W hC; unfold Oper.quietAt; go_simp) (by simp only [Act.put, List.setIfInBounds_toArray, List.set_cons_zero, List.set_cons_succ]; rfl) ?nxbt4
    refine class_put (a' := ?frbt5) (.string S) rfl (fun W hC => by unfold Oper.quietAt; go_simp) (by simp only [Act.put, List.setIfInBounds_toArray, List.set_cons_zero, List.set_cons_succ]; rfl) ?nxbt5
    refine class_put (a' := ?frbt6) (.bool true) rfl (fun W hC => by unfold Oper.quietAt; go_simp) (by simp only [Act.put, List.setIfInBounds_toArray, List.set_cons_zero, List.set_cons_succ]; rfl) ?nxbt6
    refine class_put (a' := ?frbt7) (.bool true) rfl (fun W hC => by unfold Oper.quietAt; go_simp) (by simp only [Act.put, List.setIfInBounds_toArray, List.set_cons_zero, List.set_cons_succ]; rfl) ?nxbt7
    refine class_put (a' := ?frbt8) (.slice (some ⟨g, 0, none⟩) L c7) rfl (fun W hC => by unfold Oper.quietAt; go_simp) (by simp only [Act.put, List.setIfInBounds_toArray, List.set_cons_zero, List.set_cons_succ]; rfl) ?nxbt8
    refine class_put (a' := ?frbt9) (.int .i64 (A : Int)) rfl (fun W hC => by unfold Oper.quietAt; go_simp) (by simp only [Act.put, List.setIfInBounds_toArray, List.set_cons_zero, List.set_cons_succ]; rfl) ?nxbt9
    refine class_put (a' := ?frbt10) (.int .i64 (A : Int)) rfl (fun W hC => by unfold Oper.quietAt; go_simp) (by simp only [Act.put, List.setIfInBounds_toArray, List.set_cons_zero, List.set_cons_succ]; rfl) ?nxbt10
    refine class_put (a' := ?frbt11) (.pointer (some ⟨q, 1, none⟩)) rfl (fun W hC => by unfold Oper.quietAt; go_simp) (by simp only [Act.put, List.setIfInBounds_toArray, List.set_cons_zero, List.set_cons_succ]; rfl) ?nxbt11
    refine class_put (a' := ?frbt12) (.slice va x.val.length vc) rfl (fun W hC => by have c := (B7.out.on hC).val; change W.cell? ⟨q, 1, none⟩ = some (.slice va x.val.length vc) at c; unfold Oper.quietAt; go_simp) (by simp only [Act.put, List.setIfInBounds_toArray, List.set_cons_zero, List.set_cons_succ]; rfl) ?nxbt12
    refine class_put (a' := ?frbt13) (.int .i64 (x.val.length : Int)) rfl (fun W hC => by unfold Oper.quietAt; go_simp) (by simp only [Act.put, List.setIfInBounds_toArray, List.set_cons_zero, List.set_cons_succ]; rfl) ?nxbt13
    refine class_put (a' := ?frbt14) (.int .i64 (A2 : Int)) rfl (fun W hC => by unfold Oper.quietAt; go_simp) (by simp only [Act.put, List.setIfInBounds_toArray, List.set_cons_zero, List.set_cons_succ]; rfl) ?nxbt14
    refine class_put (a' := ?frbt15) (.slice (some ⟨g, A, none⟩) x.val.length (c7 - A)) rfl (fun W hC => by unfold Oper.quietAt; go_simp) (by simp only [Act.put, List.setIfInBounds_toArray, List.set_cons_zero, List.set_cons_succ]; rfl) ?nxbt15
    refine class_put (a' := ?frbt16) (.string (mkS x.val)) rfl (fun W hC => by have c := HC2.out W hC; unfold Oper.quietAt; go_simp) (by simp only [Act.put, List.setIfInBounds_toArray, List.set_cons_zero, List.set_cons_succ]; rfl) ?nxbt16
    refine class_put (a' := ?frbt17) (.pointer (some ⟨q, 1, none⟩)) rfl (fun W hC => by unfold Oper.quietAt; go_simp) (by simp only [Act.put, List.setIfInBounds_toArray, List.set_cons_zero, List.set_cons_succ]; rfl) ?nxbt17
    refine class_put (a' := ?frbt18) (.slice va x.val.length vc) rfl (fun W hC => by have c := (B7.out.on hC).val; change W.cell? ⟨q, 1, none⟩ = some (.slice va x.val.length vc) at c; unfold Oper.quietAt; go_simp) (by simp only [Act.put, List.setIfInBounds_toArray, List.set_cons_zero, List.set_cons_succ]; rfl) ?nxbt18
    refine class_put (a' := ?frbt19) (.string (mkS x.val)) rfl (fun W hC => by have c := HC3.out W hC; unfold Oper.quietAt; go_simp) (by simp only [Act.put, List.setIfInBounds_toArray, List.set_cons_zero, List.set_cons_succ]; rfl) ?nxbt19
    refine class_put (a' := ?frbt20) (.bool true) rfl (fun W hC => by unfold Oper.quietAt; go_simp) (by simp only [Act.put, List.setIfInBounds_toArray, List.set_cons_zero, List.set_cons_succ]; rfl) ?nxbt20
    refine class_put (a' := ?frbt21) (.bool true) rfl (fun W hC => by unfold Oper.quietAt; go_simp) (by simp only [Act.put, List.setIfInBounds_toArray, List.set_cons_zero, List.set_cons_succ]; rfl) ?nxbt21
    refine class_put (a' := ?frbt22) (.bool true) rfl (fun W hC => by unfold Oper.quietAt; go_simp) (by simp only [Act.put, List.setIfInBounds_toArray, List.set_cons_zero, List.set_cons_succ]; rfl) ?nxbt22
    refine class_put (a' := ?frbt23) (.slice (some ⟨g, 0, none⟩) L c7) rfl (fun W hC => by unfold Oper.quietAt; go_simp) (by simp only [Act.put, List.setIfInBounds_toArray, List.set_cons_zero, List.set_cons_succ]; rfl) ?nxbt23
    refine class_put (a' := ?frbt24) (.slice (some ⟨g, 0, none⟩) L c7) rfl (fun W hC => by unfold Oper.quietAt; go_simp) (by simp only [Act.put, List.setIfInBounds_toArray, List.set_cons_zero, List.set_cons_succ]; rfl) ?nxbt24
    refine class_put (a' := ?frbt25) (.int .i64 (L : Int)) rfl (fun W hC => by unfold Oper.quietAt; go_simp) (by simp only [Act.put, List.setIfInBounds_toArray, List.set_cons_zero, List.set_cons_succ]; rfl) ?nxbt25
    refine class_put (a' := ?frbt26) (.int .i64 (E : Int)) rfl (fun W hC => by unfold Oper.quietAt; go_simp) (by simp only [Act.put, List.setIfInBounds_toArray, List.set_cons_zero, List.set_cons_succ]; rfl) ?nxbt26
    refine class_put (a' := ?frbt27) (.slice (some ⟨g, E, none⟩) 5 (c7 - E)) rfl (fun W hC => by unfold Oper.quietAt; go_simp) (by simp only [Act.put, List.setIfInBounds_toArray, List.set_cons_zero, List.set_cons_succ]; rfl) ?nxbt27
    refine class_put (a' := ?frbt28) (.string (mkS [69, 78, 68, 13, 10])) rfl (fun W hC => by have c := HC4.out W hC; unfold Oper.quietAt; go_simp) (by simp only [Act.put, List.setIfInBounds_toArray, List.set_cons_zero, List.set_cons_succ]; rfl) ?nxbt28
    refine class_put (a' := ?frbt29) (.bool true) rfl (fun W hC => by have c := Q2.out; unfold Oper.quietAt; go_simp) (by simp only [Act.put, List.setIfInBounds_toArray, List.set_cons_zero, List.set_cons_succ]; rfl) ?nxbt29
    refine class_put (a' := ?frbt30) (.bool true) rfl (fun W hC => by unfold Oper.quietAt; go_simp) (by simp only [Act.put, List.setIfInBounds_toArray, List.set_cons_zero, List.set_cons_succ]; rfl) ?nxbt30
    refine class_put (a' := ?frbt31) (.bool true) rfl (fun W hC => by unfold Oper.quietAt; go_simp) (by simp only [Act.put, List.setIfInBounds_toArray, List.set_cons_zero, List.set_cons_succ]; rfl) ?nxbt31
    refine wpQuiet_nil ?_
    intro w10 g10
    have GE := hide (gr_trans B7.out.gr g10)
    clear g10
    go_wp2
    go_ret
    exact ⟨rfl, below_gr GE.out⟩
end
end Go.Proofs.YtnkfpiccfmdllaaDoor
