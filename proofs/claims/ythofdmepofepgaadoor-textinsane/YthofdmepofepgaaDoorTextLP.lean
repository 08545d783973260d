/- Package lined's Parse: a line of the text dialect. Conditions: the listed variables hold what the program's text lays. -/
import Derived.Test.YthofdmepofepgaaDoorG33Joined
import Derived.Test.YthofdmepofepgaaDoorG01Joined
namespace Go.Proofs.YthofdmepofepgaaDoor
set_option linter.unusedVariables false
open Go.RowKit Go.Shelf

/-- The words of a line are read so. -/
def tReads (rd : List (List UInt8) → Sd) : Prop := ∀ (W : World) (wa : Option Addr) (wc : Nat) (ws : List (List UInt8)), Laid W → ws.length ≤ 2100 → (∀ y ∈ ws, y.length ≤ 2100) → Wu (fun _ => True) W wa ws.length wc ws → Calls Tryd.prog 13 #[.slice wa ws.length wc] W fun e w' => SaidEnd (rd ws) W e w'
section
variable {w : World} {a : Option Addr} {len cap : Nat} {l : List UInt8} {rd : List (List UInt8) → Sd}
set_option maxRecDepth 100000 in
set_option maxHeartbeats 4000000 in
theorem tparse_fault (hRd : tReads rd) (hOk : ∀ ws, SdOk (rd ws)) (hLd : Laid w) (h : Bu w a len cap l) (he : (lineN l).2.2 = 0) (hf : faultSd (rd (wordsL (lineN l).1)) ≠ []) : Calls Tryd.prog 12 #[.slice a len cap, .func (.func 13) #[] #[]] w fun e w' => ParseEnd { refuseS (faultSd (rd (wordsL (lineN l).1))) (lineN l).2.1 with skip := skipSd (rd (wordsL (lineN l).1)) } w e w' := by
  obtain ⟨hx1, -⟩ := line_used he
  obtain ⟨W0, hW0⟩ : ∃ W0, W0 = w.alloc (.cells #[.slice none 0 0, .int .i64 0, .string ⟨#[]⟩, .int .i64 0, .int .u32 0, .bool false, .bool false, .string ⟨#[]⟩, .slice none 0 0, .slice none 0 0, .bool false, .string ⟨#[]⟩, .int .i64 0, .int .i64 0, .bool false, .int .i64 0] 33) := ⟨_, rfl⟩
  have g0 : w.grownBy W0 none := by rw [hW0]; exact World.grownBy_alloc _ _ _
  have r0 : W0.heap[w.heap.size]? = some (.cells #[.slice none 0 0, .int .i64 0, .string ⟨#[]⟩, .int .i64 0, .int .u32 0, .bool false, .bool false, .string ⟨#[]⟩, .slice none 0 0, .slice none 0 0, .bool false, .string ⟨#[]⟩, .int .i64 0, .int .i64 0, .bool false, .int .i64 0] 33 (0, 0)) := by rw [hW0]; exact World.alloc_heap_new w _
  have hz0 : W0.heap.size = w.heap.size + 1 := by rw [hW0, World.size_alloc]
  have R0 := hide (fun (w1 : World) (g1 : W0.grownBy w1 none) => (g1.block w.heap.size (by omega) (by simp)).trans r0)
  have G0 := hide g0
  have HL := hide (line_any (h.on (below_gr g0)))
  generalize lineN l = x at *
  obtain ⟨x1, x2, x3⟩ := x
  simp only [lineV] at *
  subst he
  have HX : Hid ((⟨x1.toArray⟩ : ByteArray).size ≤ 5000) := by show (⟨x1.toArray⟩ : ByteArray).size ≤ 5000; have := size_mk x1; unfold mkB at this; omega
  have HWL : Hid ((wordsL x1).length ≤ 2100) := by show (wordsL x1).length ≤ 2100; have := wordsL_len x1; omega
  have HWE : Hid (∀ y ∈ wordsL x1, y.length ≤ 2100) := fun y hy => by have := wordsL_each x1 y hy; omega
  have HO := hOk (wordsL x1)
  obtain ⟨s, hs⟩ : ∃ s, rd (wordsL x1) = s := ⟨_, rfl⟩
  have HRD := hide hs
  rw [hs] at HO hf ⊢
  have HFL := faultSd_len HO
  have HFA := hide (fun ca ta ka cc tc kc W => fault_any s HO ca ta ka cc tc kc W)
  have HSK := hide (fun ca ta ka cc tc kc W => skip_any s HO ca ta ka cc tc kc W)
  generalize faultSd s = f at *
  have HF := hide (fun W => refuse_any f HFL x2 W)
  have HE := hide (fun (w1 : World) (g1 : W0.grownBy w1 none) => pbare_end (w := w) (s := { refuseS f x2 with skip := skipSd s }) rfl (R0.out w1 g1) (gr_trans G0.out g1))
  have HS := hide (set_skip (refuseS f x2) (skipSd s) none none none 0 0 0)
  generalize refuseS f x2 = y at *
  generalize skipSd s = sk at *
  obtain ⟨c, t, rfl⟩ := List.exists_cons_of_ne_nil hf
  replace hLd := hide hLd
  replace hRd := hide hRd
  clear h r0 g0 hs HO hOk hf HFL hz0 hx1
  have N1 : Hid True := trivial
  go_enter Tryd.func12, Tryd.ntmps12
  go_wp2_with (first
    | (go_at_call 17; rw [← hW0]; refine HL.out.mono ?_; rintro e w1 ⟨rfl, g1⟩; have LD1 := hide (hLd.out.on (below_gr (gr_trans G0.out g1))); replace g1 := hide g1)
    | (go_at_call 19; refine (gather_any ⟨x1.toArray⟩ HX.out _).mono ?_; rintro e w2 ⟨v2, rfl, o2, b2⟩; obtain ⟨wa, wc, rfl, U2⟩ := gathered o2; have C2 := hide (hRd.out w2 wa wc (wordsL x1) (LD1.out.on (below_gr (gr_of_below b2))) HWL.out HWE.out U2); have g2 := hide (gr_trans g1.out (gr_of_below b2)); clear o2 b2 U2)
    | (go_at_call 13; refine C2.out.mono ?_; rw [HRD.out]; rintro e w3 ⟨ca, cc, ta, tc, ka, kc, rfl, A3, k3⟩; have g3 := hide (gr_trans g2.out k3); replace A3 := hide A3; obtain ⟨q, hq⟩ : ∃ q, q = w3.heap.size := ⟨_, rfl⟩; obtain ⟨W4, hW4⟩ : ∃ W4, W4 = w3.alloc (.cells (sdC s ca cc ta tc ka kc) 51) := ⟨_, rfl⟩; have n4 : W4.heap[q]? = some (.cells (sdC s ca cc ta tc ka kc) 51 (0, 0)) := (by rw [hW4, hq]; exact World.alloc_heap_new _ _); have h4 := hide (show w3.grownBy W4 none from by rw [hW4]; exact World.grownBy_alloc _ _ _); have lq : q < W4.heap.size := (by rw [hW4, hq, World.size_alloc]; omega); have z3 := hide hq; replace n4 := hide n4; replace lq := hide lq; replace k3 := hide k3)
    | (refine wpList_store_row rfl 51 _ _ rfl w3.heap.size (sdC s ca cc ta tc ka kc) rfl rfl _ _ (World.alloc_heap_new w3 _) (said_size _ _ _ _ _ _ _) rfl (said_one _ _ _ _ _ _ _) ?_; rw [setRow_alloc, ← hW4, ← hq]; clear hW4 hq)
    | (have t_ := n4; clear t_; refine wpList_load_row rfl 51 _ rfl q rfl _ (sdC s ca cc ta tc ka kc) _ _ n4.out Tryd.underlying51 rfl (said_size _ _ _ _ _ _ _) ?_; have t4 := hide trivial)
    | (go_at_call 20; refine (HFA.out ca ta ka cc tc kc _).mono ?_; rintro e w5 ⟨rfl, k5⟩; have g5 := hide (gr_trans g3.out (gr_trans h4.out k5)); replace n4 := hide ((k5.block q lq.out (by simp)).trans n4.out); replace lq := hide (Nat.lt_of_lt_of_le lq.out k5.size); simp only [mkB])
    | (go_at_call 18; have t1 := g5; clear t1; refine (HF.out _).mono ?_; rintro e w6 ⟨rfl, k6⟩; have g6 := hide (gr_trans g5.out k6); obtain ⟨B, hB⟩ : ∃ B, B = w6.heap.size := ⟨_, rfl⟩; obtain ⟨W7, hW7⟩ : ∃ W7, W7 = w6.alloc (.cells (stC y none 0 none 0 none 0) 33) := ⟨_, rfl⟩; have k7 : w6.grownBy W7 none := (by rw [hW7]; exact World.grownBy_alloc _ _ _); replace n4 := hide (((gr_trans k6 k7).block q lq.out (by simp)).trans n4.out); have HW7 := hide hW7; have HB := hide hB; clear k6 k7)
    | (refine wpList_store_row rfl 33 _ _ rfl w6.heap.size (stC y none 0 none 0 none 0) rfl rfl _ _ (World.alloc_heap_new w6 _) (step_size _ _ _ _ _ _ _) rfl (step_one _ _ _ _ _ _ _) ?_; rw [setRow_alloc, ← hW7, ← hB]; clear hW7 hB)
    | (go_at_call 21; refine (HSK.out ca ta ka cc tc kc _).mono ?_; rintro e w8 ⟨rfl, k8⟩; obtain ⟨c2, f2, n5, k5⟩ := cell_mid2 (j := 13) (v := .int .i64 sk) HW7.out HB.out g6.out k8 rfl HS.out; obtain ⟨W3, hW3⟩ : ∃ W3, W3 = w8.setCell ⟨B, 13, none⟩ (.int .i64 sk) := ⟨_, rfl⟩; rw [← hW3] at n5 k5; replace n5 := hide n5; replace k5 := hide k5; have HW3 := hide hW3; clear hW3 k8 n4)
    | (rw [← HW3.out]; refine wpList_load_row rfl 33 _ rfl B rfl _ (stC { y with skip := sk } none 0 none 0 none 0) _ _ n5.out Tryd.underlying33 rfl (step_size _ _ _ _ _ _ _) ?_)
    | (refine wpList_store_row rfl 33 _ _ rfl w.heap.size (stC { y with skip := sk } none 0 none 0 none 0) rfl rfl _ _ (R0.out W3 k5.out) (step_size _ _ _ _ _ _ _) rfl (step_one _ _ _ _ _ _ _) ?_))
  exact step_ret rfl (HE.out W3 k5.out).1 rfl rfl (HE.out W3 k5.out).2
set_option maxRecDepth 100000 in
set_option maxHeartbeats 4000000 in
theorem tparse_ok (hRd : tReads rd) (hOk : ∀ ws, SdOk (rd ws)) (hLd : Laid w) (h : Bu w a len cap l) (hlen : len ≤ 9223372036854000000) (he : (lineN l).2.2 = 0) (hf : faultSd (rd (wordsL (lineN l).1)) = []) : Calls Tryd.prog 12 #[.slice a len cap, .func (.func 13) #[] #[]] w fun e w' => ParseEnd (finSd (rd (wordsL (lineN l).1)) (l.drop (lineN l).2.1.toNat) (lineN l).2.1) w e w' := by
  obtain ⟨hx1, u, hu, hul⟩ := line_used he
  obtain ⟨W0, hW0⟩ : ∃ W0, W0 = w.alloc (.cells #[.slice none 0 0, .int .i64 0, .string ⟨#[]⟩, .int .i64 0, .int .u32 0, .bool false, .bool false, .string ⟨#[]⟩, .slice none 0 0, .slice none 0 0, .bool false, .string ⟨#[]⟩, .int .i64 0, .int .i64 0, .bool false, .int .i64 0] 33) := ⟨_, rfl⟩
  have g0 : w.grownBy W0 none := by rw [hW0]; exact World.grownBy_alloc _ _ _
  have r0 : W0.heap[w.heap.size]? = some (.cells #[.slice none 0 0, .int .i64 0, .string ⟨#[]⟩, .int .i64 0, .int .u32 0, .bool false, .bool false, .string ⟨#[]⟩, .slice none 0 0, .slice none 0 0, .bool false, .string ⟨#[]⟩, .int .i64 0, .int .i64 0, .bool false, .int .i64 0] 33 (0, 0)) := by rw [hW0]; exact World.alloc_heap_new w _
  have hz0 : W0.heap.size = w.heap.size + 1 := by rw [hW0, World.size_alloc]
  have R0 := hide (fun (w1 : World) (g1 : W0.grownBy w1 none) => (g1.block w.heap.size (by omega) (by simp)).trans r0)
  have G0 := hide g0
  have HL := hide (line_any (h.on (below_gr g0)))
  have hn := h.n
  have hm := h.m
  have hc := h.c
  unfold maxLen at hm
  obtain ⟨a', hsl, hbk⟩ := h.back (i := u) (by omega)
  have HBK := hide (fun (W : World) (hg : w.grownBy W none) => hbk W (h.on (below_gr hg)))
  generalize lineN l = x at *
  obtain ⟨x1, x2, x3⟩ := x
  simp only [lineV] at *
  subst he hu
  rw [Int.toNat_natCast]
  have HX : Hid ((⟨x1.toArray⟩ : ByteArray).size ≤ 5000) := by show (⟨x1.toArray⟩ : ByteArray).size ≤ 5000; have := size_mk x1; unfold mkB at this; omega
  have HWL : Hid ((wordsL x1).length ≤ 2100) := by show (wordsL x1).length ≤ 2100; have := wordsL_len x1; omega
  have HWE : Hid (∀ y ∈ wordsL x1, y.length ≤ 2100) := fun y hy => by have := wordsL_each x1 y hy; omega
  have HO := hOk (wordsL x1)
  obtain ⟨s, hs⟩ : ∃ s, rd (wordsL x1) = s := ⟨_, rfl⟩
  have HRD := hide hs
  rw [hs] at HO hf ⊢
  have HFA := hide (fun ca ta ka cc tc kc W => fault_any s HO ca ta ka cc tc kc W)
  obtain ⟨-, hsz⟩ := faultSd_nil hf
  have HFN := hide (fun (n0 : Nat) (W : World) (ca ta ka : Option Addr) (cc tc kc : Nat) (hA : SdAt n0 W s ca cc ta tc ka kc) (hn0 : n0 ≤ W.heap.size) (b3 : Bu W a' (len - u) (cap - u) (l.drop u)) => finish_any hA hn0 ⟨HO.lo, hsz⟩ b3 (u : Int) (by omega))
  rw [hf] at HFA
  generalize finSd s (l.drop u) (u : Int) = y at *
  replace hLd := hide hLd
  replace hRd := hide hRd
  have HSL := hide hsl
  have hui : (u : Int) ≤ (len : Int) := by omega
  clear h r0 g0 hs HO hOk hf hsz hbk hul hn hc hm hlen hx1 hsl hui
  go_enter Tryd.func12, Tryd.ntmps12
  go_upto_region 15 with (first
    | (go_at_call 17; rw [← hW0]; refine HL.out.mono ?_; rintro e w1 ⟨rfl, g1⟩; have LD1 := hide (hLd.out.on (below_gr (gr_trans G0.out g1))); replace g1 := hide g1)
    | (go_at_call 19; refine (gather_any ⟨x1.toArray⟩ HX.out _).mono ?_; rintro e w2 ⟨v2, rfl, o2, b2⟩; obtain ⟨wa, wc, rfl, U2⟩ := gathered o2; have C2 := hide (hRd.out w2 wa wc (wordsL x1) (LD1.out.on (below_gr (gr_of_below b2))) HWL.out HWE.out U2); have g2 := hide (gr_trans g1.out (gr_of_below b2)); clear o2 b2 U2)
    | (go_at_call 13; refine C2.out.mono ?_; rw [HRD.out]; rintro e w3 ⟨ca, cc, ta, tc, ka, kc, rfl, A3, k3⟩; have g3 := hide (gr_trans g2.out k3); replace A3 := hide A3; obtain ⟨q, hq⟩ : ∃ q, q = w3.heap.size := ⟨_, rfl⟩; obtain ⟨W4, hW4⟩ : ∃ W4, W4 = w3.alloc (.cells (sdC s ca cc ta tc ka kc) 51) := ⟨_, rfl⟩; have n4 : W4.heap[q]? = some (.cells (sdC s ca cc ta tc ka kc) 51 (0, 0)) := (by rw [hW4, hq]; exact World.alloc_heap_new _ _); have h4 := hide (show w3.grownBy W4 none from by rw [hW4]; exact World.grownBy_alloc _ _ _); have lq : q < W4.heap.size := (by rw [hW4, hq, World.size_alloc]; omega); have z3 := hide hq; replace n4 := hide n4; replace lq := hide lq; replace k3 := hide k3)
    | (refine wpList_store_row rfl 51 _ _ rfl w3.heap.size (sdC s ca cc ta tc ka kc) rfl rfl _ _ (World.alloc_heap_new w3 _) (said_size _ _ _ _ _ _ _) rfl (said_one _ _ _ _ _ _ _) ?_; rw [setRow_alloc, ← hW4, ← hq]; clear hW4 hq)
    | (have t_ := n4; clear t_; refine wpList_load_row rfl 51 _ rfl q rfl _ (sdC s ca cc ta tc ka kc) _ _ n4.out Tryd.underlying51 rfl (said_size _ _ _ _ _ _ _) ?_; have t4 := hide trivial)
    | (go_at_call 20; refine (HFA.out ca ta ka cc tc kc _).mono ?_; rintro e w5 ⟨rfl, k5⟩; have g5 := hide (gr_trans g3.out (gr_trans h4.out k5)); have j5 := hide (gr_trans h4.out k5); replace n4 := hide ((k5.block q lq.out (by simp)).trans n4.out); replace lq := hide (Nat.lt_of_lt_of_le lq.out k5.size); clear k5; simp only [mkB])
    | fail)
  refine region_ctail (C := fun W' => w5.grownBy W' none) 5 (by kernel_rfl) (by simp) (by kernel_rfl) (gr_of_below (Below.drew (Below.refl _ _))) ?_
  simp only [List.take_succ_cons, List.take_zero, List.drop_succ_cons, List.drop_zero]
  refine class_put (a' := ?fr0) (.agg (sdC s ca cc ta tc ka kc)) rfl (fun W hC => quiet_row 51 _ rfl q rfl ((hC.block q lq.out (by simp)).trans n4.out) Tryd.underlying51 rfl (said_size _ _ _ _ _ _ _)) (by simp only [Act.put, List.setIfInBounds_toArray, List.set_cons_zero, List.set_cons_succ]; rfl) ?nx0
  refine class_put (a' := ?fr1) (.slice a len cap) rfl (fun W hC => by unfold Oper.quietAt; go_simp) (by simp only [Act.put, List.setIfInBounds_toArray, List.set_cons_zero, List.set_cons_succ]; rfl) ?nx1
  refine class_put (a' := ?fr2) (.int .i64 (u : Int)) rfl (fun W hC => by unfold Oper.quietAt; go_simp) (by simp only [Act.put, List.setIfInBounds_toArray, List.set_cons_zero, List.set_cons_succ]; rfl) ?nx2
  refine class_put (a' := ?fr3) (.slice a' (len - u) (cap - u)) rfl (fun W hC => by have s_ := HSL.out W; unfold Oper.quietAt; go_simp) (by simp only [Act.put, List.setIfInBounds_toArray, List.set_cons_zero, List.set_cons_succ]; rfl) ?nx3
  refine class_put (a' := ?fr4) (.int .i64 (u : Int)) rfl (fun W hC => by unfold Oper.quietAt; go_simp) (by simp only [Act.put, List.setIfInBounds_toArray, List.set_cons_zero, List.set_cons_succ]; rfl) ?nx4
  refine wpQuiet_nil ?_
  intro W6 C6
  have g6 := gr_trans g5.out C6
  have hn0 : w2.heap.size ≤ W6.heap.size := Nat.le_trans (gr_trans k3.out j5.out).size C6.size
  have hw0 : W0.heap.size ≤ w2.heap.size := g2.out.size
  have A6 : SdAt w2.heap.size W6 s ca cc ta tc ka kc := SdAt.on A3.out (gr_trans j5.out C6)
  have F6 := hide (HFN.out w2.heap.size W6 ca ta ka cc tc kc A6 hn0 (HBK.out W6 (gr_trans G0.out g6)))
  clear A6 hn0
  replace g6 := hide g6
  replace hw0 := hide hw0
  go_wp2_with (first
    | (go_at_call 22; refine F6.out.mono ?_; rintro e w7 f7; obtain ⟨cb, cd, tb, td, kb, kd, rfl, q7, g7⟩ := fin_over f7 g6.out hw0.out; replace q7 := hide q7; replace g7 := hide g7; clear f7)
    | (refine wpList_store_row rfl 33 _ _ rfl w.heap.size (stC y cb cd tb td kb kd) rfl rfl _ _ (R0.out w7 g7.out) (step_size _ _ _ _ _ _ _) rfl (step_one _ _ _ _ _ _ _) ?_))
  have PE := parse_end (w := w) (n0 := w2.heap.size) (R0.out w7 g7.out) (by have := hw0.out; omega) (gr_trans G0.out g7.out) q7.out
  exact step_ret rfl PE.1 rfl rfl PE.2
theorem tlparse_any (hRd : tReads rd) (hOk : ∀ ws, SdOk (rd ws)) (hLd : Laid w) (h : Bu w a len cap l) (hlen : len ≤ 9223372036854000000) : Calls Tryd.prog 12 #[.slice a len cap, .func (.func 13) #[] #[]] w fun e w' => ParseEnd (parseSd rd l) w e w' := by
  unfold parseSd
  rcases line_ways l with he | he | he
  · rw [if_pos he]
    exact parse_more _ h he
  · rw [if_neg (by omega), if_pos he]
    exact parse_long _ h he
  · rw [if_neg (by omega), if_neg (by omega)]
    unfold lineSd
    by_cases hf : faultSd (rd (wordsL (lineN l).1)) = []
    · rw [if_pos hf]
      exact tparse_ok hRd hOk hLd h hlen he hf
    · rw [if_neg hf]
      exact tparse_fault hRd hOk hLd h he hf
end
end Go.Proofs.YthofdmepofepgaaDoor
