/- How package textin reads the words behind a first one: with two readings that are made in an order that is left open. Conditions: at most 5000 words. -/
import Derived.Test.YthofdmepofepgaaDoorTextK
namespace Go.Proofs.YthofdmepofepgaaDoor
set_option linter.unusedVariables false
open Go.RowKit

section
variable {Q : Nat → Prop} {w : World} {n0 D : Nat} {d : Dv} {ka va : Option Addr} {c vc : Nat} {t : TypeId} {a : Option Addr} {len cap : Nat} {ws : List (List UInt8)}
set_option maxRecDepth 100000 in
set_option maxHeartbeats 2000000 in
theorem parts10 (hD : w.heap[D]? = some (.cells (drC d ka c va vc) t (0, 0))) (hop : d.op = 10 ∨ d.op = 11) : Calls Tryd.prog 33 #[.pointer (some ⟨D, 0, none⟩), .slice a len cap] w fun e w' => PartsEnd D [0, 2] w e w' := by
  have hlt : D < w.heap.size := (Array.getElem?_eq_some_iff.1 hD).1
  have hB := pbox w D
  have hDW := (hB.gr.block D hlt (by simp)).trans hD
  have co := dr_op hDW
  obtain ⟨i0, hi, hz0, hz1, hz2⟩ := info_parts info_rd
  obtain ⟨q, hq⟩ : ∃ q, q = w.heap.size := ⟨_, rfl⟩
  obtain ⟨W, hW⟩ : ∃ W, W = w.alloc (.cells #[.pointer (some ⟨D, 0, none⟩)] 69) := ⟨_, rfl⟩
  have cq := hB.cq
  rw [← hq, ← hW] at hB
  have S0 : W.drew.cell? ⟨q, 0, none⟩ = some (.pointer (some ⟨D, 0, none⟩)) := hB.cq
  have hdl : q < W.drew.heap.size := hB.lt
  have hg2 : Hid (w.grownBy W.drew none) := gr_trans hB.gr (gr_drew W)
  clear hB hDW hD
  rcases hop with h | h
  all_goals
    rw [h] at co
    clear h
    go_enter Tryd.func33, Tryd.ntmps33
    go_wp2
    rw [← hW, ← hq]
    refine region_htail (S := fun W' => W'.cell? ⟨q, 0, none⟩ = some (.pointer (some ⟨D, 0, none⟩))) 4 (by kernel_rfl) (by simp) (by kernel_rfl) ?_
    simp only [List.take_succ_cons, List.take_zero, List.drop_succ_cons, List.drop_zero]
    have HQ := hide hq
    clear cq co hW hq
    generalize W.drew = W2 at *
    refine take_at 0 43 (v := .pointer (some ⟨D, 0, none⟩)) rfl rfl (by kernel_rfl) (by kernel_rfl) (by kernel_rfl) (fun _ _ _ h => h) (Or.inl ⟨by rfl, fun W hW => by go_simp⟩) S0 ?_
    simp only [Act.put, List.setIfInBounds_toArray, List.set_cons_zero, List.set_cons_succ]
    refine take_at 1 44 (v := .func (.func 44) #[.pointer (some ⟨D, 0, none⟩)] #[]) rfl rfl (by kernel_rfl) (by kernel_rfl) (by kernel_rfl) (fun _ _ _ h => h) (Or.inl ⟨by rfl, fun W hW => by go_simp⟩) S0 ?_
    simp only [Act.put, List.setIfInBounds_toArray, List.set_cons_zero, List.set_cons_succ]
    refine take_at 2 45 (v := .func (.func 46) #[] #[.pointer (some ⟨q, 0, none⟩)]) rfl rfl (by kernel_rfl) (by kernel_rfl) (by kernel_rfl) (fun _ _ _ h => h) (Or.inl ⟨by rfl, fun W hW => by go_simp⟩) S0 ?_
    simp only [Act.put, List.setIfInBounds_toArray, List.set_cons_zero, List.set_cons_succ]
    refine one_at 3 (by kernel_rfl) rfl rfl ?_
    refine oper_call 46 rfl (by go_simp; rfl) (tdec_any 18446744073709551615 (mkB t_delta) 46 q W2) ?_
    rintro e w1 ⟨g1, f1, p1, rfl, k1, B1⟩
    have S1 : w1.cell? ⟨q, 0, none⟩ = some (.pointer (some ⟨D, 0, none⟩)) := (World.cell?_of_block (k1.block q hdl (by simp))).trans S0
    refine ⟨_, rfl, S1, ?_⟩
    simp only [Act.put, List.setIfInBounds_toArray, List.set_cons_zero, List.set_cons_succ]
    refine wpAnyH_done (by kernel_rfl) ?_ _
    change wpList _ _ _ _ _ _
    have hs1 := hg2.out.size
    have hs2 := k1.size
    have hq := HQ.out
    have R2 : IsRd w1 w1.heap.size D 2 (numV g1 f1 p1) := rdNum (n1 := w.heap.size) (by decide) (by decide) (by decide) rfl rfl hlt hs1 (by omega) (by omega) S1 B1
    have RE := hide (PartsEnd.row (w := w) (cs := #[keyV D, numV g1 f1 p1]) rfl (((RdL.nil w1 D).cons R2).cons rdKey) rfl (by decide) (gr_trans hg2.out k1))
    clear R2 B1 S1 S0 k1 hg2 hs1 hs2 hq HQ hdl
    refine wpList_buildSlice rfl 70 74 2 _ rfl #[keyV D, numV g1 f1 p1] i0 .nilFunc Tryd.underlying70 hi hz0 (by rw [hz1]; decide) (by rw [hz1]; decide) (by rw [hz1]; kernel_rfl) ?_
    generalize w1.alloc (.cells #[keyV D, numV g1 f1 p1] 74) = W4 at *
    go_wp2
    go_ret
    exact RE.out
theorem own_cell {n0 n g cap : Nat} {e : TypeId} {w : World} {xs : List Value} (h : w.ownsRow n0 e 1 (.slice (some ⟨g, 0, none⟩) n cap) n xs) (k : Nat) (u : Value) (hu : xs[k]? = some u) : w.cell? ((⟨g, 0, none⟩ : Addr).add k) = some u := by
  rw [add_at, Nat.zero_add]
  have hl : xs.length = n * 1 := h.1
  have hk : k < xs.length := (List.getElem?_eq_some_iff.1 hu).1
  rw [h.cellAt k (by omega)]
  exact hu
theorem oper_build (d : Nat) {P : Program} {o : Oper} {a : Act} {w : World} {K : Act → World → Prop} {Q : Exit → Act → World → Prop} (hd : o.dst = some d) (t e : TypeId) (len : Nat) (parts : Array (Nat × Operand)) (ho : o.op = .buildSlice t len parts)
    (cells : Array Value) (ie : TypeInfo) (z : Value)
    (hu : P.underlying t = some (.slice e)) (hie : P.info? e = some ie) (hz : ie.zero = some z) (hsmall : ¬ len * ie.size > 2 ^ 24) (hpos : ¬ len * ie.size = 0)
    (hf : Instr.fill (fun i => some (i * ie.size, ie.size)) ((Array.range (len * ie.size)).map (z.cells[· % z.cells.size]!)) (parts.map fun (i, x) => (i, a.eval x)).toList = some cells)
    (h : K (a.put (some d) (.slice (some ⟨w.heap.size, 0, none⟩) len len)) (w.alloc (.cells cells e))) : o.wp P a w K Q := wp_buildSlice t e len parts ho cells ie z hu hie hz hsmall hpos hf (by rw [hd]; exact h)
/-- Readings appended to one reading. -/
theorem parts1_end {n b : Nat} {w3 w4 : World} {v' : Value} (hlt : D < w.heap.size) (hg : w.grownBy w3 none) (hb : w.heap.size ≤ b) (ho : w4.ownsRow w.heap.size 74 1 v' (1 + n) ([expV D] ++ List.replicate n (keyV D))) (hk : w3.grownBy w4 (some b)) : PartsEnd D (1 :: List.replicate n 0) w (.returned v') w4 := by
  refine ⟨v', _, rfl, ?_, (RdL.keys w4 D n).cons rdExp, gr_new hg hk hb⟩
  rw [List.length_cons, List.length_replicate, Nat.add_comm]
  exact ho
set_option maxRecDepth 100000 in
set_option maxHeartbeats 2000000 in
theorem parts1 (hD : w.heap[D]? = some (.cells (drC d ka c va vc) t (0, 0))) (hl : len ≤ 5000) (hop : d.op = 1) : Calls Tryd.prog 33 #[.pointer (some ⟨D, 0, none⟩), .slice a len cap] w fun e w' => PartsEnd D (1 :: List.replicate (max (len - 1) 1) 0) w e w' := by
  have hlt : D < w.heap.size := (Array.getElem?_eq_some_iff.1 hD).1
  have hB := pbox w D
  have hDW := (hB.gr.block D hlt (by simp)).trans hD
  have co := dr_op hDW
  obtain ⟨i0, hi, hz0, hz1, hz2⟩ := info_parts info_rd
  obtain ⟨q, hq⟩ : ∃ q, q = w.heap.size := ⟨_, rfl⟩
  obtain ⟨W, hW⟩ : ∃ W, W = w.alloc (.cells #[.pointer (some ⟨D, 0, none⟩)] 69) := ⟨_, rfl⟩
  have cq := hB.cq
  rw [← hq, ← hW] at hB
  have S0 : W.drew.cell? ⟨q, 0, none⟩ = some (.pointer (some ⟨D, 0, none⟩)) := hB.cq
  have hdl : q < W.drew.heap.size := hB.lt
  have hg2 : Hid (w.grownBy W.drew none) := gr_trans hB.gr (gr_drew W)
  clear hB hDW hD
  rw [hop] at co
  have e1 : wrap64 ((len : Int) - 1) = (len : Int) - 1 := by unfold wrap64; omega
  obtain ⟨n, hn⟩ : ∃ n, n = max (len - 1) 1 := ⟨_, rfl⟩
  rw [← hn]
  have HK := hide (fun W => keys_any D n ((len : Int) - 1) (by omega) (by omega) W)
  have hn1 : 0 < n := by omega
  have hn5 : n ≤ 5000 := by omega
  clear hn
  go_enter Tryd.func33, Tryd.ntmps33
  go_wp2
  rw [← hW, ← hq]
  refine region_htail (S := fun W' => W'.cell? ⟨q, 0, none⟩ = some (.pointer (some ⟨D, 0, none⟩))) 8 (by kernel_rfl) (by simp) (by kernel_rfl) ?_
  simp only [List.take_succ_cons, List.take_zero, List.drop_succ_cons, List.drop_zero]
  have HQ := hide hq
  clear cq co hW hq
  generalize W.drew = W2 at *
  refine take_at 0 18 (v := .pointer (some ⟨D, 0, none⟩)) rfl rfl (by kernel_rfl) (by kernel_rfl) (by kernel_rfl) (fun _ _ _ h => h) (Or.inl ⟨by rfl, fun W hW => by go_simp⟩) S0 ?_
  simp only [Act.put, List.setIfInBounds_toArray, List.set_cons_zero, List.set_cons_succ]
  refine take_at 1 19 (v := .func (.func 42) #[.pointer (some ⟨D, 0, none⟩)] #[]) rfl rfl (by kernel_rfl) (by kernel_rfl) (by kernel_rfl) (fun _ _ _ h => h) (Or.inl ⟨by rfl, fun W hW => by go_simp⟩) S0 ?_
  simp only [Act.put, List.setIfInBounds_toArray, List.set_cons_zero, List.set_cons_succ]
  refine take_at 3 21 (v := .pointer (some ⟨D, 0, none⟩)) rfl rfl (by kernel_rfl) (by kernel_rfl) (by kernel_rfl) (fun _ _ _ h => h) (Or.inl ⟨by rfl, fun W hW => by go_simp⟩) S0 ?_
  simp only [Act.put, List.setIfInBounds_toArray, List.set_cons_zero, List.set_cons_succ]
  refine take_at 4 22 (v := .slice a len cap) rfl rfl (by kernel_rfl) (by kernel_rfl) (by kernel_rfl) (fun _ _ _ h => h) (Or.inl ⟨by rfl, fun W hW => by go_simp⟩) S0 ?_
  simp only [Act.put, List.setIfInBounds_toArray, List.set_cons_zero, List.set_cons_succ]
  refine take_at 5 23 (v := .int .i64 (len : Int)) rfl rfl (by kernel_rfl) (by kernel_rfl) (by kernel_rfl) (fun _ _ _ h => h) (Or.inl ⟨by rfl, fun W hW => by go_simp⟩) S0 ?_
  simp only [Act.put, List.setIfInBounds_toArray, List.set_cons_zero, List.set_cons_succ]
  refine take_at 6 24 (v := .int .i64 ((len : Int) - 1)) rfl rfl (by kernel_rfl) (by kernel_rfl) (by kernel_rfl) (fun _ _ _ h => h) (Or.inl ⟨by rfl, fun W hW => by go_simp; rw [IntKind.wrap_i64]; omega⟩) S0 ?_
  simp only [Act.put, List.setIfInBounds_toArray, List.set_cons_zero, List.set_cons_succ]
  have hq := HQ.out
  have hs1 := hg2.out.size
  refine wpAnyH_all (rs := [2, 7]) (by kernel_rfl) (by simp) ?_
  intro i hi27
  obtain rfl | rfl : i = 2 ∨ i = 7 := by simpa using hi27
  · refine wpOp_plain rfl rfl ?_
    refine oper_build 20 rfl 70 74 1 _ rfl #[expV D] i0 .nilFunc Tryd.underlying70 hi hz0 (by rw [hz1]; decide) (by rw [hz1]; decide) (by rw [hz1]; kernel_rfl) ?_
    have g3 := World.grownBy_alloc W2 (.cells #[expV D] 74) none
    have S3 := (World.cell?_of_block (a := ⟨q, 0, none⟩) (g3.block q hdl (by simp))).trans S0
    have o3 := own_laid (e := 74) W2 #[expV D] (n := 1) rfl (by decide)
    refine ⟨S3, ?_⟩
    simp only [Act.put, List.setIfInBounds_toArray, List.set_cons_zero, List.set_cons_succ]
    obtain ⟨B, hB⟩ : ∃ B, B = W2.heap.size := ⟨_, rfl⟩
    rw [← hB] at o3 ⊢
    generalize W2.alloc (.cells #[expV D] 74) = W3 at *
    refine one_at 7 (by kernel_rfl) rfl rfl ?_
    refine oper_call 25 rfl (by go_simp) (HK.out W3) ?_
    rintro e w5 ⟨v5, rfl, o5, b5⟩
    obtain ⟨g5, c5, rfl⟩ := own_form o5 hn1
    have k5 := gr_of_below b5
    have S5 := (World.cell?_of_block (a := ⟨q, 0, none⟩) (k5.block q (Nat.lt_of_lt_of_le hdl g3.size) (by simp))).trans S3
    refine ⟨_, rfl, S5, ?_⟩
    simp only [Act.put, List.setIfInBounds_toArray, List.set_cons_zero, List.set_cons_succ]
    refine wpAnyH_done (by kernel_rfl) ?_ _
    have O1 := hide (own_base (own_on o3 k5) (show w.heap.size ≤ B by omega))
    have G5 := hide (gr_trans hg2.out (gr_trans g3 k5))
    have O2 := hide o5
    have HBb : Hid (w.heap.size ≤ B) := (show w.heap.size ≤ B by omega)
    have GB : Hid (w.heap.size ≤ w5.heap.size) := G5.out.size
    clear hB S5 k5 b5 o5 g3 S3 o3 S0 hdl hg2 hs1 hq HQ HK hi27
    change wpList _ _ _ _ _ _
    refine wpList_append_own _ rfl _ _ 70 rfl w.heap.size 74 i0 .nilFunc 1 8 Tryd.underlying70 hi hz0 hz1 hz2 rfl (by decide) (.slice (some ⟨B, 0, none⟩) 1 1) 1 [expV D] rfl O1.out ⟨g5, 0, none⟩ n c5 (List.replicate n (keyV D)) rfl (by rw [List.length_replicate, Nat.mul_one]) (fun k u hu => own_cell O2.out k u hu) (fun u hu => by rw [List.eq_of_mem_replicate hu]; rfl) (by unfold maxLen; omega) (by omega) GB.out ?_
    intro v' w6 o6 k6 _
    have RE := hide (parts1_end hlt G5.out HBb.out o6 k6)
    clear o6 k6
    go_wp2
    go_ret
    exact RE.out
  · refine wpOp_plain rfl rfl ?_
    refine oper_call 25 rfl (by go_simp) (HK.out W2) ?_
    rintro e w5 ⟨v5, rfl, o5, b5⟩
    obtain ⟨g5, c5, rfl⟩ := own_form o5 hn1
    have k5 := gr_of_below b5
    have S5 := (World.cell?_of_block (a := ⟨q, 0, none⟩) (k5.block q hdl (by simp))).trans S0
    refine ⟨_, rfl, S5, ?_⟩
    simp only [Act.put, List.setIfInBounds_toArray, List.set_cons_zero, List.set_cons_succ]
    refine one_at 2 (by kernel_rfl) rfl rfl ?_
    refine oper_build 20 rfl 70 74 1 _ rfl #[expV D] i0 .nilFunc Tryd.underlying70 hi hz0 (by rw [hz1]; decide) (by rw [hz1]; decide) (by rw [hz1]; kernel_rfl) ?_
    have g3 := World.grownBy_alloc w5 (.cells #[expV D] 74) none
    have S3 := (World.cell?_of_block (a := ⟨q, 0, none⟩) (g3.block q (Nat.lt_of_lt_of_le hdl k5.size) (by simp))).trans S5
    have o3 := own_laid (e := 74) w5 #[expV D] (n := 1) rfl (by decide)
    refine ⟨S3, ?_⟩
    simp only [Act.put, List.setIfInBounds_toArray, List.set_cons_zero, List.set_cons_succ]
    obtain ⟨B, hB⟩ : ∃ B, B = w5.heap.size := ⟨_, rfl⟩
    rw [← hB] at o3 ⊢
    have k5s := k5.size
    generalize w5.alloc (.cells #[expV D] 74) = W3 at *
    refine wpAnyH_done (by kernel_rfl) ?_ _
    have O1 := hide (own_base o3 (show w.heap.size ≤ B by omega))
    have G5 := hide (gr_trans hg2.out (gr_trans k5 g3))
    have O2 := hide (own_on o5 g3)
    have HBb : Hid (w.heap.size ≤ B) := (show w.heap.size ≤ B by omega)
    have GB : Hid (w.heap.size ≤ W3.heap.size) := G5.out.size
    clear hB S5 k5 k5s b5 o5 g3 S3 o3 S0 hdl hg2 hs1 hq HQ HK hi27
    change wpList _ _ _ _ _ _
    refine wpList_append_own _ rfl _ _ 70 rfl w.heap.size 74 i0 .nilFunc 1 8 Tryd.underlying70 hi hz0 hz1 hz2 rfl (by decide) (.slice (some ⟨B, 0, none⟩) 1 1) 1 [expV D] rfl O1.out ⟨g5, 0, none⟩ n c5 (List.replicate n (keyV D)) rfl (by rw [List.length_replicate, Nat.mul_one]) (fun k u hu => own_cell O2.out k u hu) (fun u hu => by rw [List.eq_of_mem_replicate hu]; rfl) (by unfold maxLen; omega) (by omega) GB.out ?_
    intro v' w6 o6 k6 _
    have RE := hide (parts1_end hlt G5.out HBb.out o6 k6)
    clear o6 k6
    go_wp2
    go_ret
    exact RE.out
theorem parts_any (hD : w.heap[D]? = some (.cells (drC d ka c va vc) t (0, 0))) (hW : Wu Q w a len cap ws) (hl : len ≤ 5000) (hop : (opN d.verb) = some d.op) : Calls Tryd.prog 33 #[.pointer (some ⟨D, 0, none⟩), .slice a len cap] w fun e w' => PartsEnd D (partsN d.op d.verb ws) w e w' := by
  have hn := hW.n
  have hv : d.op = 0 ∨ d.op = 1 ∨ (d.op = 3 ∨ d.op = 4 ∨ d.op = 5 ∨ d.op = 6 ∨ d.op = 7) ∨ d.op = 8 ∨ (d.op = 10 ∨ d.op = 11) ∨ d.op = 2 ∨ d.op = 13 ∨ (d.op = 15 ∨ d.op = 16) := by
    rcases verbs d.verb with h | h | h | h | h | h | h | h | h | h | h | h | h | h | h | h | h | h
    · rw [h] at hop
      have := Option.some.inj (opN_get.symm.trans hop)
      omega
    · rw [h] at hop
      have := Option.some.inj (opN_gets.symm.trans hop)
      omega
    · rw [h] at hop
      have := Option.some.inj (opN_gat.symm.trans hop)
      omega
    · rw [h] at hop
      have := Option.some.inj (opN_gats.symm.trans hop)
      omega
    · rw [h] at hop
      have := Option.some.inj (opN_set.symm.trans hop)
      omega
    · rw [h] at hop
      have := Option.some.inj (opN_cas.symm.trans hop)
      omega
    · rw [h] at hop
      have := Option.some.inj (opN_add.symm.trans hop)
      omega
    · rw [h] at hop
      have := Option.some.inj (opN_replace.symm.trans hop)
      omega
    · rw [h] at hop
      have := Option.some.inj (opN_append.symm.trans hop)
      omega
    · rw [h] at hop
      have := Option.some.inj (opN_prepend.symm.trans hop)
      omega
    · rw [h] at hop
      have := Option.some.inj (opN_delete.symm.trans hop)
      omega
    · rw [h] at hop
      have := Option.some.inj (opN_incr.symm.trans hop)
      omega
    · rw [h] at hop
      have := Option.some.inj (opN_decr.symm.trans hop)
      omega
    · rw [h] at hop
      have := Option.some.inj (opN_touch.symm.trans hop)
      omega
    · rw [h] at hop
      have := Option.some.inj (opN_flush.symm.trans hop)
      omega
    · rw [h] at hop
      have := Option.some.inj (opN_version.symm.trans hop)
      omega
    · rw [h] at hop
      have := Option.some.inj (opN_quit.symm.trans hop)
      omega
    · rw [h.op] at hop
      cases hop
  unfold partsN
  rcases hv with h | h | h | h | h | h | h | h
  · rw [if_pos h, hn]
    exact parts0 hD hl h
  · rw [if_neg (by omega), if_pos h, hn]
    exact parts1 hD hl h
  · rw [if_neg (by omega), if_neg (by omega), if_pos (by omega)]
    exact parts3 hD h
  · rw [if_neg (by omega), if_neg (by omega), if_neg (by omega), if_pos h]
    exact parts8 hD h
  · rw [if_neg (by omega), if_neg (by omega), if_neg (by omega), if_neg (by omega), if_pos h]
    exact parts10 hD h
  · rw [if_neg (by omega), if_neg (by omega), if_neg (by omega), if_neg (by omega), if_neg (by omega), if_pos h]
    exact parts2 hD h
  · rw [if_neg (by omega), if_neg (by omega), if_neg (by omega), if_neg (by omega), if_neg (by omega), if_neg (by omega), if_pos h]
    have := parts13 hD hW h
    rw [h]
    exact this
  · rw [if_neg (by omega), if_neg (by omega), if_neg (by omega), if_neg (by omega), if_neg (by omega), if_neg (by omega), if_neg (by omega)]
    exact parts15 hD h
end
end Go.Proofs.YthofdmepofepgaaDoor
