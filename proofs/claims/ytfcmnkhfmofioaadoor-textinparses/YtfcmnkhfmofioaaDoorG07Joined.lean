/- How package textin reads the words behind a first one: with two readings that are made in an order that is left open. Conditions: at most 5000 words. The first of two texts that is one. Conditions: none. How package textin reads the words of a line, one by one. Conditions: the listed variables hold what the program's text lays; at most 5000 words of at most 140737488351232 bytes. How package textin reads a line whose first word is a verb. Conditions: the listed variables hold what the program's text lays; at most 5000 words of at most 140737488351232 bytes. -/
import Derived.Test.YtfcmnkhfmofioaaDoorG06Joined
import Derived.Test.YtfcmnkhfmofioaaDoorG02Joined
namespace Go.Proofs.YtfcmnkhfmofioaaDoor
set_option linter.unusedVariables false
open Go.RowKit

section
variable {Q : Nat → Prop} {w : World} {n0 D : Nat} {d : Dv} {ka va : Option Addr} {c vc : Nat} {t : TypeId} {a : Option Addr} {len cap : Nat} {ws : List (List UInt8)}
set_option maxRecDepth 100000 in
set_option maxHeartbeats 2000000 in
theorem parts10 (hD : w.heap[D]? = some (.cells (drC d ka c va vc) t (0, 0))) (hop : d.op = 10 ∨ d.op = 11) : Calls Tryd.prog 46 #[.pointer (some ⟨D, 0, none⟩), .slice a len cap] w fun e w' => PartsEnd D [0, 2] w e w' := by
  have hlt : D < w.heap.size := (Array.getElem?_eq_some_iff.1 hD).1
  have hB := pbox w D
  have hDW := (hB.gr.block D hlt (by simp)).trans hD
  have co := dr_op hDW
  obtain ⟨i0, hi, hz0, hz1, hz2⟩ := info_parts info_rd
  obtain ⟨q, hq⟩ : ∃ q, q = w.heap.size := ⟨_, rfl⟩
  obtain ⟨W, hW⟩ : ∃ W, W = w.alloc (.cells #[.pointer (some ⟨D, 0, none⟩)] 81) := ⟨_, rfl⟩
  have cq := hB.cq
  rw [← hq, ← hW] at hB
  have S0 : W.drew.cell? ⟨q, 0, none⟩ = some (.pointer (some ⟨D, 0, none⟩)) := hB.cq
  have hdl : q < W.drew.heap.size := hB.lt
  have hg2 : Hid (w.grownBy W.drew none) := gr_trans hB.gr (gr_drew W)
  clear hB hDW hD
  rcases hop with h | h
  all_goals
    rw [h] at co
    clear h
    go_enter Tryd.func46, Tryd.ntmps46
    go_wp2
    rw [← hW, ← hq]
    refine region_htail (S := fun W' => W'.cell? ⟨q, 0, none⟩ = some (.pointer (some ⟨D, 0, none⟩))) 4 (by kernel_rfl) (by simp) (by kernel_rfl) ?_
    simp only [List.take_succ_cons, List.take_zero, List.drop_succ_cons, List.drop_zero]
    have HQ := hide hq
    clear cq co hW hq
    generalize W.drew = W2 at *
    refine take_at 0 43 (v := .pointer (some ⟨D, 0, none⟩)) rfl rfl (by kernel_rfl) (by kernel_rfl) (by kernel_rfl) (fun _ _ _ h => h) (Or.inl ⟨by rfl, fun W hW => by go_simp⟩) S0 ?_
    simp only [Act.put, List.setIfInBounds_toArray, List.set_cons_zero, List.set_cons_succ]
    refine take_at 1 44 (v := .func (.func 57) #[.pointer (some ⟨D, 0, none⟩)] #[]) rfl rfl (by kernel_rfl) (by kernel_rfl) (by kernel_rfl) (fun _ _ _ h => h) (Or.inl ⟨by rfl, fun W hW => by go_simp⟩) S0 ?_
    simp only [Act.put, List.setIfInBounds_toArray, List.set_cons_zero, List.set_cons_succ]
    refine take_at 2 45 (v := .func (.func 59) #[] #[.pointer (some ⟨q, 0, none⟩)]) rfl rfl (by kernel_rfl) (by kernel_rfl) (by kernel_rfl) (fun _ _ _ h => h) (Or.inl ⟨by rfl, fun W hW => by go_simp⟩) S0 ?_
    simp only [Act.put, List.setIfInBounds_toArray, List.set_cons_zero, List.set_cons_succ]
    refine one_at 3 (by kernel_rfl) rfl rfl ?_
    refine oper_call 46 rfl (by go_simp; rfl) (tdec_any 18446744073709551615 (mkB t_delta) 59 q W2) ?_
    rintro e w1 ⟨g1, f1, p1, rfl, k1, B1⟩
    have S1 : w1.cell? ⟨q, 0, none⟩ = some (.pointer (some ⟨D, 0, none⟩)) := (World.cell?_of_block (k1.block q hdl (by simp))).trans S0
    refine ⟨_, rfl, S1, ?_⟩
    simp only [Act.put, List.setIfInBounds_toArray, List.set_cons_zero, List.set_cons_succ]
    refine wpAnyH_done (by kernel_rfl) ?_ _
    change wpList _ _ _ _ _ _
    have hs1 := hg2.out.size
    have hs2 := k1.size
    have hq := HQ.out
    have R2 : IsRd w1 w1.heap.size D 2 (numV g1 f1 p1) := rdNum (n1 := w.heap.size) (by decide) (by decide) (by decide) rfl rfl hlt hs1 (by omega) (by omega) S1 B1
    have RE := hide (PartsEnd.row (w := w) (cs := #[keyV D, numV g1 f1 p1]) rfl (((RdL.nil w1 D).cons R2).cons rdKey) rfl (by decide) (gr_trans hg2.out k1))
    clear R2 B1 S1 S0 k1 hg2 hs1 hs2 hq HQ hdl
    refine wpList_buildSlice rfl 82 86 2 _ rfl #[keyV D, numV g1 f1 p1] i0 .nilFunc Tryd.underlying82 hi hz0 (by rw [hz1]; decide) (by rw [hz1]; decide) (by rw [hz1]; kernel_rfl) ?_
    generalize w1.alloc (.cells #[keyV D, numV g1 f1 p1] 86) = W4 at *
    go_wp2
    go_ret
    exact RE.out
theorem own_cell {n0 n g cap : Nat} {e : TypeId} {w : World} {xs : List Value} (h : w.ownsRow n0 e 1 (.slice (some ⟨g, 0, none⟩) n cap) n xs) (k : Nat) (u : Value) (hu : xs[k]? = some u) : w.cell? ((⟨g, 0, none⟩ : Addr).add k) = some u := by
  rw [add_at, Nat.zero_add]
  have hl : xs.length = n * 1 := h.1
  have hk : k < xs.length := (List.getElem?_eq_some_iff.1 hu).1
  rw [h.cellAt k (by omega)]
  exact hu
theorem oper_build (d : Nat) {P : Program} {o : Oper} {a : Act} {w : World} {K : Act → World → Prop} {Q : Exit → Act → World → Prop} (hd : o.dst = some d) (t e : TypeId) (len : Nat) (parts : Array (Nat × Operand)) (ho : o.op = .buildSlice t len parts)
    (cells : Array Value) (ie : TypeInfo) (z : Value)
    (hu : P.underlying t = some (.slice e)) (hie : P.info? e = some ie) (hz : ie.zero = some z) (hsmall : ¬ len * ie.size > 2 ^ 24) (hpos : ¬ len * ie.size = 0)
    (hf : Instr.fill (fun i => some (i * ie.size, ie.size)) ((Array.range (len * ie.size)).map (z.cells[· % z.cells.size]!)) (parts.map fun (i, x) => (i, a.eval x)).toList = some cells)
    (h : K (a.put (some d) (.slice (some ⟨w.heap.size, 0, none⟩) len len)) (w.alloc (.cells cells e))) : o.wp P a w K Q := wp_buildSlice t e len parts ho cells ie z hu hie hz hsmall hpos hf (by rw [hd]; exact h)
/-- Readings appended to one reading. -/
theorem parts1_end {n b : Nat} {w3 w4 : World} {v' : Value} (hlt : D < w.heap.size) (hg : w.grownBy w3 none) (hb : w.heap.size ≤ b) (ho : w4.ownsRow w.heap.size 86 1 v' (1 + n) ([expV D] ++ List.replicate n (keyV D))) (hk : w3.grownBy w4 (some b)) : PartsEnd D (1 :: List.replicate n 0) w (.returned v') w4 := by
  refine ⟨v', _, rfl, ?_, (RdL.keys w4 D n).cons rdExp, gr_new hg hk hb⟩
  rw [List.length_cons, List.length_replicate, Nat.add_comm]
  exact ho
set_option maxRecDepth 100000 in
set_option maxHeartbeats 2000000 in
theorem parts1 (hD : w.heap[D]? = some (.cells (drC d ka c va vc) t (0, 0))) (hl : len ≤ 5000) (hop : d.op = 1) : Calls Tryd.prog 46 #[.pointer (some ⟨D, 0, none⟩), .slice a len cap] w fun e w' => PartsEnd D (1 :: List.replicate (max (len - 1) 1) 0) w e w' := by
  have hlt : D < w.heap.size := (Array.getElem?_eq_some_iff.1 hD).1
  have hB := pbox w D
  have hDW := (hB.gr.block D hlt (by simp)).trans hD
  have co := dr_op hDW
  obtain ⟨i0, hi, hz0, hz1, hz2⟩ := info_parts info_rd
  obtain ⟨q, hq⟩ : ∃ q, q = w.heap.size := ⟨_, rfl⟩
  obtain ⟨W, hW⟩ : ∃ W, W = w.alloc (.cells #[.pointer (some ⟨D, 0, none⟩)] 81) := ⟨_, rfl⟩
  have cq := hB.cq
  rw [← hq, ← hW] at hB
  have S0 : W.drew.cell? ⟨q, 0, none⟩ = some (.pointer (some ⟨D, 0, none⟩)) := hB.cq
  have hdl : q < W.drew.heap.size := hB.lt
  have hg2 : Hid (w.grownBy W.drew none) := gr_trans hB.gr (gr_drew W)
  clear hB hDW hD
  rw [hop] at co
  have e1 : wrap64 ((len : Int) - 1) = (len : Int) - 1 := by unfold wrap64; omega
  obtain ⟨n, hn⟩ : ∃ n, n = max (len - 1) 1 := ⟨_, rfl⟩
  rw [← hn]
  have HK := hide (fun W => keys_any D n ((len : Int) - 1) (by omega) (by omega) W)
  have hn1 : 0 < n := by omega
  have hn5 : n ≤ 5000 := by omega
  clear hn
  go_enter Tryd.func46, Tryd.ntmps46
  go_wp2
  rw [← hW, ← hq]
  refine region_htail (S := fun W' => W'.cell? ⟨q, 0, none⟩ = some (.pointer (some ⟨D, 0, none⟩))) 8 (by kernel_rfl) (by simp) (by kernel_rfl) ?_
  simp only [List.take_succ_cons, List.take_zero, List.drop_succ_cons, List.drop_zero]
  have HQ := hide hq
  clear cq co hW hq
  generalize W.drew = W2 at *
  refine take_at 0 18 (v := .pointer (some ⟨D, 0, none⟩)) rfl rfl (by kernel_rfl) (by kernel_rfl) (by kernel_rfl) (fun _ _ _ h => h) (Or.inl ⟨by rfl, fun W hW => by go_simp⟩) S0 ?_
  simp only [Act.put, List.setIfInBounds_toArray, List.set_cons_zero, List.set_cons_succ]
  refine take_at 1 19 (v := .func (.func 55) #[.pointer (some ⟨D, 0, none⟩)] #[]) rfl rfl (by kernel_rfl) (by kernel_rfl) (by kernel_rfl) (fun _ _ _ h => h) (Or.inl ⟨by rfl, fun W hW => by go_simp⟩) S0 ?_
  simp only [Act.put, List.setIfInBounds_toArray, List.set_cons_zero, List.set_cons_succ]
  refine take_at 3 21 (v := .pointer (some ⟨D, 0, none⟩)) rfl rfl (by kernel_rfl) (by kernel_rfl) (by kernel_rfl) (fun _ _ _ h => h) (Or.inl ⟨by rfl, fun W hW => by go_simp⟩) S0 ?_
  simp only [Act.put, List.setIfInBounds_toArray, List.set_cons_zero, List.set_cons_succ]
  refine take_at 4 22 (v := .slice a len cap) rfl rfl (by kernel_rfl) (by kernel_rfl) (by kernel_rfl) (fun _ _ _ h => h) (Or.inl ⟨by rfl, fun W hW => by go_simp⟩) S0 ?_
  simp only [Act.put, List.setIfInBounds_toArray, List.set_cons_zero, List.set_cons_succ]
  refine take_at 5 23 (v := .int .i64 (len : Int)) rfl rfl (by kernel_rfl) (by kernel_rfl) (by kernel_rfl) (fun _ _ _ h => h) (Or.inl ⟨by rfl, fun W hW => by go_simp⟩) S0 ?_
  simp only [Act.put, List.setIfInBounds_toArray, List.set_cons_zero, List.set_cons_succ]
  refine take_at 6 24 (v := .int .i64 ((len : Int) - 1)) rfl rfl (by kernel_rfl) (by kernel_rfl) (by kernel_rfl) (fun _ _ _ h => h) (Or.inl ⟨by rfl, fun W hW => by go_simp; rw [IntKind.wrap_i64]; omega⟩) S0 ?_
  simp only [Act.put, List.setIfInBounds_toArray, List.set_cons_zero, List.set_cons_succ]
  have hq := HQ.out
  have hs1 := hg2.out.size
  refine wpAnyH_all (rs := [2, 7]) (by kernel_rfl) (by simp) ?_
  intro i hi27
  obtain rfl | rfl : i = 2 ∨ i = 7 := by simpa using hi27
  · refine wpOp_plain rfl rfl ?_
    refine oper_build 20 rfl 82 86 1 _ rfl #[expV D] i0 .nilFunc Tryd.underlying82 hi hz0 (by rw [hz1]; decide) (by rw [hz1]; decide) (by rw [hz1]; kernel_rfl) ?_
    have g3 := World.grownBy_alloc W2 (.cells #[expV D] 86) none
    have S3 := (World.cell?_of_block (a := ⟨q, 0, none⟩) (g3.block q hdl (by simp))).trans S0
    have o3 := own_laid (e := 86) W2 #[expV D] (n := 1) rfl (by decide)
    refine ⟨S3, ?_⟩
    simp only [Act.put, List.setIfInBounds_toArray, List.set_cons_zero, List.set_cons_succ]
    obtain ⟨B, hB⟩ : ∃ B, B = W2.heap.size := ⟨_, rfl⟩
    rw [← hB] at o3 ⊢
    generalize W2.alloc (.cells #[expV D] 86) = W3 at *
    refine one_at 7 (by kernel_rfl) rfl rfl ?_
    refine oper_call 25 rfl (by go_simp) (HK.out W3) ?_
    rintro e w5 ⟨v5, rfl, o5, b5⟩
    obtain ⟨g5, c5, rfl⟩ := own_form o5 hn1
    have k5 := gr_of_below b5
    have S5 := (World.cell?_of_block (a := ⟨q, 0, none⟩) (k5.block q (Nat.lt_of_lt_of_le hdl g3.size) (by simp))).trans S3
    refine ⟨_, rfl, S5, ?_⟩
    simp only [Act.put, List.setIfInBounds_toArray, List.set_cons_zero, List.set_cons_succ]
    refine wpAnyH_done (by kernel_rfl) ?_ _
    have O1 := hide (own_base (own_on o3 k5) (show w.heap.size ≤ B by omega))
    have G5 := hide (gr_trans hg2.out (gr_trans g3 k5))
    have O2 := hide o5
    have HBb : Hid (w.heap.size ≤ B) := (show w.heap.size ≤ B by omega)
    have GB : Hid (w.heap.size ≤ w5.heap.size) := G5.out.size
    clear hB S5 k5 b5 o5 g3 S3 o3 S0 hdl hg2 hs1 hq HQ HK hi27
    change wpList _ _ _ _ _ _
    refine wpList_append_own _ rfl _ _ 82 rfl w.heap.size 86 i0 .nilFunc 1 8 Tryd.underlying82 hi hz0 hz1 hz2 rfl (by decide) (.slice (some ⟨B, 0, none⟩) 1 1) 1 [expV D] rfl O1.out ⟨g5, 0, none⟩ n c5 (List.replicate n (keyV D)) rfl (by rw [List.length_replicate, Nat.mul_one]) (fun k u hu => own_cell O2.out k u hu) (fun u hu => by rw [List.eq_of_mem_replicate hu]; rfl) (by unfold maxLen; omega) (by omega) GB.out ?_
    intro v' w6 o6 k6 _
    have RE := hide (parts1_end hlt G5.out HBb.out o6 k6)
    clear o6 k6
    go_wp2
    go_ret
    exact RE.out
  · refine wpOp_plain rfl rfl ?_
    refine oper_call 25 rfl (by go_simp) (HK.out W2) ?_
    rintro e w5 ⟨v5, rfl, o5, b5⟩
    obtain ⟨g5, c5, rfl⟩ := own_form o5 hn1
    have k5 := gr_of_below b5
    have S5 := (World.cell?_of_block (a := ⟨q, 0, none⟩) (k5.block q hdl (by simp))).trans S0
    refine ⟨_, rfl, S5, ?_⟩
    simp only [Act.put, List.setIfInBounds_toArray, List.set_cons_zero, List.set_cons_succ]
    refine one_at 2 (by kernel_rfl) rfl rfl ?_
    refine oper_build 20 rfl 82 86 1 _ rfl #[expV D] i0 .nilFunc Tryd.underlying82 hi hz0 (by rw [hz1]; decide) (by rw [hz1]; decide) (by rw [hz1]; kernel_rfl) ?_
    have g3 := World.grownBy_alloc w5 (.cells #[expV D] 86) none
    have S3 := (World.cell?_of_block (a := ⟨q, 0, none⟩) (g3.block q (Nat.lt_of_lt_of_le hdl k5.size) (by simp))).trans S5
    have o3 := own_laid (e := 86) w5 #[expV D] (n := 1) rfl (by decide)
    refine ⟨S3, ?_⟩
    simp only [Act.put, List.setIfInBounds_toArray, List.set_cons_zero, List.set_cons_succ]
    obtain ⟨B, hB⟩ : ∃ B, B = w5.heap.size := ⟨_, rfl⟩
    rw [← hB] at o3 ⊢
    have k5s := k5.size
    generalize w5.alloc (.cells #[expV D] 86) = W3 at *
    refine wpAnyH_done (by kernel_rfl) ?_ _
    have O1 := hide (own_base o3 (show w.heap.size ≤ B by omega))
    have G5 := hide (gr_trans hg2.out (gr_trans k5 g3))
    have O2 := hide (own_on o5 g3)
    have HBb : Hid (w.heap.size ≤ B) := (show w.heap.size ≤ B by omega)
    have GB : Hid (w.heap.size ≤ W3.heap.size) := G5.out.size
    clear hB S5 k5 k5s b5 o5 g3 S3 o3 S0 hdl hg2 hs1 hq HQ HK hi27
    change wpList _ _ _ _ _ _
    refine wpList_append_own _ rfl _ _ 82 rfl w.heap.size 86 i0 .nilFunc 1 8 Tryd.underlying82 hi hz0 hz1 hz2 rfl (by decide) (.slice (some ⟨B, 0, none⟩) 1 1) 1 [expV D] rfl O1.out ⟨g5, 0, none⟩ n c5 (List.replicate n (keyV D)) rfl (by rw [List.length_replicate, Nat.mul_one]) (fun k u hu => own_cell O2.out k u hu) (fun u hu => by rw [List.eq_of_mem_replicate hu]; rfl) (by unfold maxLen; omega) (by omega) GB.out ?_
    intro v' w6 o6 k6 _
    have RE := hide (parts1_end hlt G5.out HBb.out o6 k6)
    clear o6 k6
    go_wp2
    go_ret
    exact RE.out
theorem parts_any (hD : w.heap[D]? = some (.cells (drC d ka c va vc) t (0, 0))) (hW : Wu Q w a len cap ws) (hl : len ≤ 5000) (hop : (opN d.verb) = some d.op) : Calls Tryd.prog 46 #[.pointer (some ⟨D, 0, none⟩), .slice a len cap] w fun e w' => PartsEnd D (partsN d.op d.verb ws) w e w' := by
  have hn := hW.n
  have hv : d.op = 0 ∨ d.op = 1 ∨ (d.op = 3 ∨ d.op = 4 ∨ d.op = 5 ∨ d.op = 6 ∨ d.op = 7) ∨ d.op = 8 ∨ (d.op = 10 ∨ d.op = 11) ∨ d.op = 2 ∨ d.op = 13 ∨ (d.op = 15 ∨ d.op = 16) := by
    rcases verbs d.verb with h | h | h | h | h | h | h | h | h | h | h | h | h | h | h | h | h | h
    · rw [h] at hop
      have := Option.some.inj (opN_get.symm.trans hop)
      omega
    · rw [h] at hop
      have := Option.some.inj (opN_gets.symm.trans hop)
      omega
    · rw [h] at hop
      have := Option.some.inj (opN_gat.symm.trans hop)
      omega
    · rw [h] at hop
      have := Option.some.inj (opN_gats.symm.trans hop)
      omega
    · rw [h] at hop
      have := Option.some.inj (opN_set.symm.trans hop)
      omega
    · rw [h] at hop
      have := Option.some.inj (opN_cas.symm.trans hop)
      omega
    · rw [h] at hop
      have := Option.some.inj (opN_add.symm.trans hop)
      omega
    · rw [h] at hop
      have := Option.some.inj (opN_replace.symm.trans hop)
      omega
    · rw [h] at hop
      have := Option.some.inj (opN_append.symm.trans hop)
      omega
    · rw [h] at hop
      have := Option.some.inj (opN_prepend.symm.trans hop)
      omega
    · rw [h] at hop
      have := Option.some.inj (opN_delete.symm.trans hop)
      omega
    · rw [h] at hop
      have := Option.some.inj (opN_incr.symm.trans hop)
      omega
    · rw [h] at hop
      have := Option.some.inj (opN_decr.symm.trans hop)
      omega
    · rw [h] at hop
      have := Option.some.inj (opN_touch.symm.trans hop)
      omega
    · rw [h] at hop
      have := Option.some.inj (opN_flush.symm.trans hop)
      omega
    · rw [h] at hop
      have := Option.some.inj (opN_version.symm.trans hop)
      omega
    · rw [h] at hop
      have := Option.some.inj (opN_quit.symm.trans hop)
      omega
    · rw [h.op] at hop
      cases hop
  unfold partsN
  rcases hv with h | h | h | h | h | h | h | h
  · rw [if_pos h, hn]
    exact parts0 hD hl h
  · rw [if_neg (by omega), if_pos h, hn]
    exact parts1 hD hl h
  · rw [if_neg (by omega), if_neg (by omega), if_pos (by omega)]
    exact parts3 hD h
  · rw [if_neg (by omega), if_neg (by omega), if_neg (by omega), if_pos h]
    exact parts8 hD h
  · rw [if_neg (by omega), if_neg (by omega), if_neg (by omega), if_neg (by omega), if_pos h]
    exact parts10 hD h
  · rw [if_neg (by omega), if_neg (by omega), if_neg (by omega), if_neg (by omega), if_neg (by omega), if_pos h]
    exact parts2 hD h
  · rw [if_neg (by omega), if_neg (by omega), if_neg (by omega), if_neg (by omega), if_neg (by omega), if_neg (by omega), if_pos h]
    have := parts13 hD hW h
    rw [h]
    exact this
  · rw [if_neg (by omega), if_neg (by omega), if_neg (by omega), if_neg (by omega), if_neg (by omega), if_neg (by omega), if_neg (by omega)]
    exact parts15 hD h
end
end Go.Proofs.YtfcmnkhfmofioaaDoor

namespace Go.Proofs.YtfcmnkhfmofioaaDoor
set_option linter.unusedVariables false
open Go.RowKit

theorem two_new {e : TypeId} (w : World) (x y : Value) : (w.alloc (.cells #[x, y] e)).cell? ⟨w.heap.size, 0, none⟩ = some x ∧ (w.alloc (.cells #[x, y] e)).cell? ⟨w.heap.size, 1, none⟩ = some y := by
  have h := World.alloc_heap_new w (.cells #[x, y] e)
  exact ⟨by unfold World.cell?; rw [h]; rfl, by unfold World.cell?; rw [h]; rfl⟩
set_option maxRecDepth 100000 in
set_option maxHeartbeats 2000000 in
theorem or_any {w : World} {b : Nat} {f r : List UInt8} (h0 : w.cell? ⟨b, 0, none⟩ = some (.string (mkB f))) (h1 : w.cell? ⟨b, 1, none⟩ = some (.string (mkB r))) : Calls Tryd.prog 48 #[.slice (some ⟨b, 0, none⟩) 2 2] w fun e w' => e = .returned (.string (mkB (if f = [] then r else f))) ∧ w = w' := by
  cases f with
  | cons x f =>
    rw [if_neg (by simp)]
    simp only [mkB] at *
    go_enter Tryd.func48, Tryd.ntmps48
    go_wp2
    go_loop [8] (fun i => i = .int .i64 0) (fun _ => 0)
    case atStart => rfl
    case round =>
      subst hrel
      go_wp2
      go_ret
      exact ⟨rfl, rfl⟩
  | nil =>
    rw [if_pos rfl]
    simp only [mkB] at *
    cases r with
    | nil =>
      go_enter Tryd.func48, Tryd.ntmps48
      go_wp2
      go_loop [8] (fun i => i = .int .i64 0 ∨ i = .int .i64 1 ∨ i = .int .i64 2) (fun i => 2 - (intOf i).toNat)
      case atStart => exact .inl rfl
      case round =>
        rcases hrel with rfl | rfl | rfl
        · go_wp2
          go_round
          case rel => exact .inr (.inl (by go_num))
          case measure => simp [intOf]
        · go_wp2
          go_round
          case rel => exact .inr (.inr (by go_num))
          case measure => simp [intOf]
        · go_wp2
          go_ret
          exact ⟨rfl, rfl⟩
    | cons x r =>
      go_enter Tryd.func48, Tryd.ntmps48
      go_wp2
      go_loop [8] (fun i => i = .int .i64 0 ∨ i = .int .i64 1) (fun i => 2 - (intOf i).toNat)
      case atStart => exact .inl rfl
      case round =>
        rcases hrel with rfl | rfl
        · go_wp2
          go_round
          case rel => exact .inr (by go_num)
          case measure => simp [intOf]
        · go_wp2
          go_ret
          exact ⟨rfl, rfl⟩
end Go.Proofs.YtfcmnkhfmofioaaDoor

namespace Go.Proofs.YtfcmnkhfmofioaaDoor
set_option linter.unusedVariables false
open Go.RowKit

section
variable {wB w w' : World} {n0 D : Nat} {d : Dv} {k : Nat} {x : List UInt8}
theorem IsRd.at_ {v : Value} (h : IsRd w n0 D k v) (hn : n0 ≤ w.heap.size) (hg : GD n0 D w w') : IsRd w' n0 D k v := by
  rcases h with h | h | ⟨h1, h2, g, f, p, q, h3, B⟩
  · exact .inl h
  · exact .inr (.inl h)
  · exact .inr (.inr ⟨h1, h2, g, f, p, q, h3, B.on hn hg⟩)
theorem runR_step {ks : List Nat} {ws : List (List UInt8)} {j : Nat} (h1 : j < ks.length) (h2 : j < ws.length) (d : Dv) (f : List UInt8) : runR (ks.drop j) (ws.drop j) d f = runR (ks.drop (j + 1)) (ws.drop (j + 1)) (readW ks[j] d ws[j]).1 (if f = [] then (readW ks[j] d ws[j]).2 else f) := by
  rw [List.drop_eq_getElem_cons h1, List.drop_eq_getElem_cons h2]
  rfl
theorem runR_end {ks : List Nat} {ws : List (List UInt8)} {j : Nat} (h1 : ks.length ≤ j) (d : Dv) (f : List UInt8) : runR (ks.drop j) (ws.drop j) d f = (d, f) := by
  rw [List.drop_eq_nil_of_le h1]
  rfl
theorem readW_keys (k : Nat) (d : Dv) (x : List UInt8) : (readW k d x).1.keys.length ≤ d.keys.length + 1 := by
  unfold readW keepK
  repeat' split
  all_goals simp
/-- How a reading is called, and what comes of it. -/
def CallsRd (wB : World) (n0 D k : Nat) (d : Dv) (x : List UInt8) (w : World) (v : Value) : Prop :=
  (v = .func (.func 57) #[.pointer (some ⟨D, 0, none⟩)] #[] ∧ Calls Tryd.prog 57 #[.pointer (some ⟨D, 0, none⟩), .string (mkB x)] w fun e w' => ReadEnd wB n0 D w (readW k d x) e w') ∨
  (v = .func (.func 55) #[.pointer (some ⟨D, 0, none⟩)] #[] ∧ Calls Tryd.prog 55 #[.pointer (some ⟨D, 0, none⟩), .string (mkB x)] w fun e w' => ReadEnd wB n0 D w (readW k d x) e w') ∨
  (∃ g f p, v = .func (.func 66) #[] #[.pointer (some ⟨g, 0, none⟩), .pointer (some ⟨f, 0, none⟩), .pointer (some ⟨p, 0, none⟩)] ∧ Calls Tryd.prog 66 #[.string (mkB x), .pointer (some ⟨g, 0, none⟩), .pointer (some ⟨f, 0, none⟩), .pointer (some ⟨p, 0, none⟩)] w fun e w' => ReadEnd wB n0 D w (readW k d x) e w')
theorem IsRd.calls {v : Value} (h : IsRd w n0 D k v) (hL : Laid wB) (H : Dr wB n0 D w d) (hk : d.keys.length ≤ 100000) (hx : x.length ≤ 140737488351232) : CallsRd wB n0 D k d x w v := by
  rcases h with ⟨rfl, h⟩ | ⟨rfl, h⟩ | ⟨h1, h2, g, f, p, q, h3, B⟩
  · exact .inl ⟨h, tkey_any H hk⟩
  · exact .inr (.inl ⟨h, exp_any hL H hx⟩)
  · refine .inr (.inr ⟨g, f, p, h3, ?_⟩)
    obtain rfl | rfl | rfl | rfl : k = 2 ∨ k = 3 ∨ k = 4 ∨ k = 5 := by omega
    · exact dec2_any hL H B hx
    · exact dec3_any hL H B hx
    · exact dec4_any hL H B hx
    · exact dec5_any hL H B hx
/-- What read does. -/
def ReadsEnd (wB : World) (D : Nat) (w : World) (r : Dv × List UInt8) (e : Ending) (w' : World) : Prop := e = .returned (.string (mkB r.2)) ∧ (∃ n1, Dr wB n1 D w' r.1) ∧ Gr (fun k => k = D) w w'
set_option maxRecDepth 100000 in
set_option maxHeartbeats 2000000 in
theorem read_nil (H : Dr wB n0 D w zeroD) (a : Option Addr) (cap : Nat) : Calls Tryd.prog 30 #[.pointer (some ⟨D, 0, none⟩), .slice a 0 cap] w fun e w' => ReadsEnd wB D w (zeroD, t_ERROR) e w' := by
  have HH := hide H
  clear H
  go_enter Tryd.func30, Tryd.ntmps30
  go_wp2
  go_ret
  exact ⟨rfl, ⟨_, HH.out⟩, Gr.refl _ _⟩
theorem gd_gr {n : Nat} (h : GD n D w w') (hn : w.heap.size ≤ n) : Gr (fun k => k = D) w w' := ⟨h.os, h.tape, h.output, h.size, fun k hk hne => h.block k hk (by omega)⟩
variable {a : Option Addr} {len cap : Nat} {ws : List (List UInt8)}
set_option maxRecDepth 100000 in
set_option maxHeartbeats 2000000 in
theorem read_none (H : Dr wB w.heap.size D w zeroD) (hW : Wu (fun b => b ≠ D) w a len cap (x :: ws)) (hop : opN x = none) : Calls Tryd.prog 30 #[.pointer (some ⟨D, 0, none⟩), .slice a len cap] w fun e w' => ReadsEnd wB D w (begun x, t_ERROR) e w' := by
  have hn := hW.n
  rw [List.length_cons] at hn
  have hp : ¬ (len : Int) = 0 := by omega
  have hp2 : (0 : Int) < (len : Int) := by omega
  obtain ⟨b, off, rfl, c0⟩ := hW.get (i := 0) (by omega)
  simp only [Nat.add_zero, List.getElem_cons_zero] at c0
  have HB := hide (begin_any H x)
  rw [hop] at HB
  clear H hW hn hop
  go_enter Tryd.func30, Tryd.ntmps30
  go_wp2_with (go_at_call 45; refine HB.out.mono ?_; rintro e w1 ⟨rfl, K1, G1⟩)
  go_ret
  exact ⟨rfl, ⟨_, K1⟩, gd_gr G1 (Nat.le_refl _)⟩
end
end Go.Proofs.YtfcmnkhfmofioaaDoor

namespace Go.Proofs.YtfcmnkhfmofioaaDoor
set_option linter.unusedVariables false
open Go.RowKit

section
variable {wB w : World} {D : Nat} {x : List UInt8} {a : Option Addr} {len cap : Nat} {ws : List (List UInt8)}
def ReadsOk (wB : World) (D : Nat) (w w' : World) (d : Dv) : Prop := (∃ n1, Dr wB n1 D w' d) ∧ Gr (fun k => k = D) w w'
theorem gd_gr2 {w2 wr : World} (h : Gr (fun k => k = D) w w2) (k : GD w2.heap.size D w2 wr) : Gr (fun k => k = D) w wr := h.trans ⟨k.os, k.tape, k.output, k.size, fun b hb hn => k.block b hb (by omega)⟩
set_option maxRecDepth 100000 in
set_option maxHeartbeats 2000000 in
theorem read_few (hL : Laid wB) (H : Dr wB w.heap.size D w zeroD) (hW : Wu (fun b => b ≠ D) w a len cap (x :: ws)) (hl : len ≤ 5000) (hb : ∀ y ∈ ws, y.length ≤ 140737488351232) {op : Int} (hop : opN x = some op) {ks : List Nat} (hks : ks = partsN (begun x).op (begun x).verb ws) (hkl : ks.length ≤ 6000) (hq : quietN (begun x).op ws ks.length = false) (hne : ws.length ≠ ks.length) : Calls Tryd.prog 30 #[.pointer (some ⟨D, 0, none⟩), .slice a len cap] w fun e w' => ReadsEnd wB D w (begun x, t_ERROR) e w' := by
  have hn := hW.n
  rw [List.length_cons] at hn
  have hp : ¬ (len : Int) = 0 := by omega
  have hp2 : (0 : Int) < (len : Int) := by omega
  obtain ⟨b, off, rfl, c0⟩ := hW.get (i := 0) (by omega)
  simp only [Nat.add_zero, List.getElem_cons_zero] at c0
  obtain ⟨a1, hs, hT⟩ := hW.tail (by omega)
  rw [List.tail_cons] at hT
  obtain ⟨m, hm⟩ : ∃ m, ws.length = m := ⟨_, rfl⟩
  obtain rfl : len = m + 1 := by omega
  simp only [Nat.add_sub_cancel] at hs hT
  obtain ⟨c1, hc1⟩ : ∃ c1, cap - 1 = c1 := ⟨_, rfl⟩
  rw [hc1] at hs hT
  have HB := hide (begin_any H x)
  rw [hop] at HB
  have HT := hide (fun (w1 : World) (G1 : GD w.heap.size D w w1) => hT.on (w' := w1) fun b hb hl => G1.block b hl (by omega))
  have HP := hide (fun (w1 : World) (G1 : GD w.heap.size D w w1) (K1 : Dr wB w.heap.size D w1 (begun x)) => parts_any (K1.nil_ rfl) (HT.out w1 G1) (by omega) (by show opN x = some ((opN x).getD 0); rw [hop]; rfl))
  have hks2 : Hid (partsN (begun x).op (begun x).verb ws = ks) := hks.symm
  replace hq := hide hq
  clear H hW hT hc1 hn hop hks hl
  have hne2 : ¬ (m : Int) = (ks.length : Int) := by omega
  go_enter Tryd.func30, Tryd.ntmps30
  go_wp2_with (first
      | (go_at_call 45; refine HB.out.mono ?_; rintro e w1 ⟨rfl, K1, G1⟩; have P1 := hide (HP.out w1 G1 K1); rw [hks2.out] at P1; replace K1 := hide K1; replace G1 := hide G1)
      | (go_at_call 46; refine P1.out.mono ?_; rintro e w2 ⟨v, xs, rfl, o2, r2, g2⟩; obtain ⟨pa, pc, rfl⟩ := own_shape o2; have K2 := K1.out.on g2; have W2 := (HT.out w1 G1.out).on (w' := w2) fun b hb hl => g2.block b hl (by simp); have I2 := hide (isQuiet_any (K2.nil_ rfl) W2 ks.length (by omega)); rw [hq.out] at I2; replace K2 := hide K2; replace W2 := hide W2; replace o2 := hide o2; replace r2 := hide r2; replace g2 := hide g2)
      | (go_at_call 47; refine I2.out.mono ?_; rintro e w3 ⟨rfl, rfl⟩))
  go_ret
  exact ⟨rfl, ⟨_, K2.out⟩, (gd_gr G1.out (Nat.le_refl _)).trans ⟨g2.out.os, g2.out.tape, g2.out.output, g2.out.size, fun b hb hn => g2.out.block b hb (by simp)⟩⟩
set_option maxRecDepth 100000 in
set_option maxHeartbeats 4000000 in
theorem read_loud (hL : Laid wB) (H : Dr wB w.heap.size D w zeroD) (hW : Wu (fun b => b ≠ D) w a len cap (x :: ws)) (hl : len ≤ 5000) (hb : ∀ y ∈ ws, y.length ≤ 140737488351232) {op : Int} (hop : opN x = some op) {ks : List Nat} (hks : ks = partsN (begun x).op (begun x).verb ws) (hkl : ks.length ≤ 6000) (hq : quietN (begun x).op ws ks.length = false) (hne : ws.length = ks.length) : Calls Tryd.prog 30 #[.pointer (some ⟨D, 0, none⟩), .slice a len cap] w fun e w' => ReadsEnd wB D w (runR ks ws (begun x) []) e w' := by
  have hn := hW.n
  rw [List.length_cons] at hn
  have hp : ¬ (len : Int) = 0 := by omega
  have hp2 : (0 : Int) < (len : Int) := by omega
  obtain ⟨b, off, rfl, c0⟩ := hW.get (i := 0) (by omega)
  simp only [Nat.add_zero, List.getElem_cons_zero] at c0
  obtain ⟨a1, hs, hT⟩ := hW.tail (by omega)
  rw [List.tail_cons] at hT
  obtain ⟨m, hm⟩ : ∃ m, ws.length = m := ⟨_, rfl⟩
  obtain rfl : len = m + 1 := by omega
  simp only [Nat.add_sub_cancel] at hs hT
  obtain ⟨c1, hc1⟩ : ∃ c1, cap - 1 = c1 := ⟨_, rfl⟩
  rw [hc1] at hs hT
  have HB := hide (begin_any H x)
  rw [hop] at HB
  have HT := hide (fun (w1 : World) (G1 : GD w.heap.size D w w1) => hT.on (w' := w1) fun b hb hl => G1.block b hl (by omega))
  have HP := hide (fun (w1 : World) (G1 : GD w.heap.size D w w1) (K1 : Dr wB w.heap.size D w1 (begun x)) => parts_any (K1.nil_ rfl) (HT.out w1 G1) (by omega) (by show opN x = some ((opN x).getD 0); rw [hop]; rfl))
  have hks2 : Hid (partsN (begun x).op (begun x).verb ws = ks) := hks.symm
  replace hq := hide hq
  clear H hW hT hc1 hn hop hks hl
  have hne2 : (m : Int) = (ks.length : Int) := by omega
  obtain rfl : m = ks.length := by omega
  obtain ⟨ws1, hws⟩ : ∃ ws1, ws1 = ws := ⟨_, rfl⟩
  obtain ⟨d1, hd1⟩ : ∃ d1, d1 = begun x := ⟨_, rfl⟩
  have hd1k : d1.keys = [] := by rw [hd1]; rfl
  have WL : Hid (ws1.length = ks.length) := by rw [hws]; exact hne
  have WB := hide hb
  rw [← hws] at WB
  rw [← hws, ← hd1]
  replace hws := hide hws
  replace hd1 := hide hd1
  have HNE := hide hne
  clear hne hne2 hb
  go_enter Tryd.func30, Tryd.ntmps30
  go_wp2_with (first
      | (go_at_call 45; refine HB.out.mono ?_; rintro e w1 ⟨rfl, K1, G1⟩; have P1 := hide (HP.out w1 G1 K1); rw [hks2.out] at P1; replace K1 := hide K1; replace G1 := hide G1)
      | (go_at_call 46; refine P1.out.mono ?_; rintro e w2 ⟨v, xs, rfl, o2, r2, g2⟩; obtain ⟨pa, pc, rfl⟩ := own_shape o2; have K2 := K1.out.on g2; have W2 := (HT.out w1 G1.out).on (w' := w2) fun b hb hl => g2.block b hl (by simp); have I2 := hide (isQuiet_any (K2.nil_ rfl) W2 ks.length (by omega)); rw [hq.out] at I2; replace K2 := hide K2; replace W2 := hide W2; replace o2 := hide o2; replace r2 := hide r2; replace g2 := hide g2)
      | (go_at_call 47; refine I2.out.mono ?_; rintro e w3 ⟨rfl, rfl⟩))
  have L3 : Hid (Dr wB w2.heap.size D w2 d1) := by rw [hd1.out]; exact K2.out.lift rfl (Nat.lt_of_lt_of_le K1.out.hi (Nat.le_trans G1.out.size g2.out.size)) (Nat.le_refl _)
  have LG : Hid (GD w2.heap.size D w2 w2) := Gr.refl _ _
  have L2 : Hid (Wu (fun b => b ≠ D) w2 a1 ks.length c1 ws1) := by rw [hws.out]; exact W2.out
  have LW : Hid (Gr (fun k => k = D) w w2) := (gd_gr G1.out (Nat.le_refl _)).trans ⟨g2.out.os, g2.out.tape, g2.out.output, g2.out.size, fun b hb hn => g2.out.block b hb (by simp)⟩
  go_loopw [6, 45] (fun fv i wr => ∃ (k : Nat) (di : Dv) (f : List UInt8), k ≤ ks.length ∧ i = .int .i64 k ∧ fv = .string (mkB f) ∧ di.keys.length ≤ k ∧ Hid (Dr wB w2.heap.size D wr di) ∧ Hid (GD w2.heap.size D w2 wr) ∧ Hid (runR (ks.drop k) (ws1.drop k) di f = runR ks ws1 d1 [])) (fun _ i _ => ks.length - (intOf i).toNat)
  case atStart => exact ⟨0, d1, [], Nat.zero_le _, rfl, rfl, by rw [hd1k]; exact Nat.le_refl _, L3.out, LG.out, rfl⟩
  case round =>
    obtain ⟨k, di, f, hk, rfl, rfl, hdk, HD, HG, HR⟩ := hrel
    by_cases hlt : k < ks.length
    · have hki : (k : Int) < (ks.length : Int) := by omega
      have e1 : wrap64 ((k : Int) + 1) = (k : Int) + 1 := by unfold wrap64; omega
      have hwk : k < ws1.length := by rw [WL.out]; exact hlt
      have U := L2.out.on (w' := wr) fun b hb hl => HG.out.block b hl (by omega)
      obtain ⟨wb, wo, ha2, cw⟩ := U.get (i := k) hlt
      obtain ⟨pb, pc', ep⟩ := own_form o2.out (by omega : 0 < ks.length)
      cases ep
      obtain ⟨v, hv⟩ : ∃ v, xs[k]? = some v := ⟨_, List.getElem?_eq_getElem (by rw [r2.out.1]; exact hlt)⟩
      have pb1 : w1.heap.size ≤ pb ∧ pb < w2.heap.size := ⟨(own_at o2.out rfl).1, (own_at o2.out rfl).2.1⟩
      have hDlo := K1.out.hi
      have hG1 := G1.out.size
      have cp : wr.cell? ⟨pb, k, none⟩ = some v := (World.cell?_of_block (a := ⟨pb, k, none⟩) (HG.out.block pb pb1.2 (by omega))).trans ((o2.out.cellAt k (by have := o2.out.1; rw [r2.out.1] at this; omega)).trans hv)
      have rd := (r2.out.2 k _ v (List.getElem?_eq_getElem hlt) hv).at_ (Nat.le_refl _) HG.out
      have cr := rd.calls (x := ws1[k]) hL HD.out (by omega) (WB.out _ (List.getElem_mem hwk))
      have hst := hide (runR_step hlt hwk di f)
      have hkn := readW_keys ks[k] di ws1[k]
      generalize ks[k] = kd at *
      generalize ws1[k] = xk at *
      have hdk2 : (readW kd di xk).1.keys.length ≤ k + 1 := Nat.le_trans hkn (by omega)
      obtain ⟨r, hr⟩ : ∃ r, readW kd di xk = r := ⟨_, rfl⟩
      unfold CallsRd at cr
      rw [hr] at hst hdk2 cr
      have HR2 : Hid (runR (ks.drop (k + 1)) (ws1.drop (k + 1)) r.1 (if f = [] then r.2 else f) = runR ks ws1 d1 []) := hst.out.symm.trans HR.out
      subst ha2
      clear hv rd hkn hr U pb1 hDlo hG1 hst HR hwk hdk HD
      rcases cr with ⟨rfl, cc⟩ | ⟨rfl, cc⟩ | ⟨g, fb, p, rfl, cc⟩
      · replace cc := hide cc
        go_wp2_with (first
          | (go_at_call 57; refine cc.out.mono ?_; rintro e w4 ⟨rfl, K4, G4⟩; have t4 := two_new (e := 9) w4 (.string (mkB f)) (.string (mkB r.2)); replace K4 := hide (K4.on (World.grownBy_alloc w4 (.cells #[.string (mkB f), .string (mkB r.2)] 9) none)); replace G4 := hide ((HG.out.trans G4).trans (GD.of (World.grownBy_alloc w4 (.cells #[.string (mkB f), .string (mkB r.2)] 9) none))); replace t4 := hide t4)
          | (go_at_call 48; refine (or_any t4.out.1 t4.out.2).mono ?_; rintro e w5 ⟨rfl, rfl⟩))
        go_roundw
        case rel => exact ⟨k + 1, r.1, _, by omega, by go_num, rfl, hdk2, K4.out, G4.out, HR2⟩
        case measure => simp [intOf]; omega
      · replace cc := hide cc
        go_wp2_with (first
          | (go_at_call 55; refine cc.out.mono ?_; rintro e w4 ⟨rfl, K4, G4⟩; have t4 := two_new (e := 9) w4 (.string (mkB f)) (.string (mkB r.2)); replace K4 := hide (K4.on (World.grownBy_alloc w4 (.cells #[.string (mkB f), .string (mkB r.2)] 9) none)); replace G4 := hide ((HG.out.trans G4).trans (GD.of (World.grownBy_alloc w4 (.cells #[.string (mkB f), .string (mkB r.2)] 9) none))); replace t4 := hide t4)
          | (go_at_call 48; refine (or_any t4.out.1 t4.out.2).mono ?_; rintro e w5 ⟨rfl, rfl⟩))
        go_roundw
        case rel => exact ⟨k + 1, r.1, _, by omega, by go_num, rfl, hdk2, K4.out, G4.out, HR2⟩
        case measure => simp [intOf]; omega
      · replace cc := hide cc
        go_wp2_with (first
          | (go_at_call 66; refine cc.out.mono ?_; rintro e w4 ⟨rfl, K4, G4⟩; have t4 := two_new (e := 9) w4 (.string (mkB f)) (.string (mkB r.2)); replace K4 := hide (K4.on (World.grownBy_alloc w4 (.cells #[.string (mkB f), .string (mkB r.2)] 9) none)); replace G4 := hide ((HG.out.trans G4).trans (GD.of (World.grownBy_alloc w4 (.cells #[.string (mkB f), .string (mkB r.2)] 9) none))); replace t4 := hide t4)
          | (go_at_call 48; refine (or_any t4.out.1 t4.out.2).mono ?_; rintro e w5 ⟨rfl, rfl⟩))
        go_roundw
        case rel => exact ⟨k + 1, r.1, _, by omega, by go_num, rfl, hdk2, K4.out, G4.out, HR2⟩
        case measure => simp [intOf]; omega
    · obtain rfl : k = ks.length := by omega
      have hki : ¬ (ks.length : Int) < (ks.length : Int) := by omega
      have hR := HR.out
      rw [runR_end (Nat.le_refl _)] at hR
      have HF : Hid (runR ks ws1 d1 [] = (di, f)) := hR.symm
      have HDn := hide (show ReadsOk wB D w wr di from ⟨⟨_, HD.out⟩, gd_gr2 LW.out (HG.out)⟩)
      clear hR HR HD HG hlt hk hdk
      go_wp2
      go_ret
      rw [HF.out]
      exact ⟨rfl, HDn.out.1, HDn.out.2⟩
end
end Go.Proofs.YtfcmnkhfmofioaaDoor
