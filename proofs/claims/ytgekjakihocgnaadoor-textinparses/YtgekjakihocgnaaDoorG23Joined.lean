/- How package textin reads the words behind a first one. Conditions: at most 5000 words. How package textin reads the words behind a first one: with two readings that are made in an order that is left open. Conditions: at most 5000 words. -/
import Derived.Test.YtgekjakihocgnaaDoorG07Joined
namespace Go.Proofs.YtgekjakihocgnaaDoor
set_option linter.unusedVariables false
open Go.RowKit

section
variable {Q : Nat → Prop} {w : World} {n0 D : Nat} {d : Dv} {ka va : Option Addr} {c vc : Nat} {t : TypeId} {a : Option Addr} {len cap : Nat} {ws : List (List UInt8)}
theorem PartsEnd.up {W w' : World} {ks : List Nat} {e : Ending} (h : PartsEnd D ks W e w') (hg : w.grownBy W none) : PartsEnd D ks w e w' := by
  obtain ⟨v, xs, h1, h2, h3, h4⟩ := h
  exact ⟨v, xs, h1, ⟨h2.1, h2.2.imp id fun ⟨g, cp, cur, a1, a2, a3⟩ => ⟨g, cp, cur, a1, Nat.le_trans hg.size a2, a3⟩⟩, h3, gr_trans hg h4⟩
theorem PartsEnd.row {w' : World} {ks : List Nat} {cs : Array Value} {b : Nat} (hb : w'.heap.size = b) (h : RdL w' D ks cs.toList) (hn : cs.size = ks.length) (hm : ks.length ≤ maxLen) (hg : w.grownBy w' none) : PartsEnd D ks w (.returned (.slice (some ⟨b, 0, none⟩) ks.length ks.length)) (w'.alloc (.cells cs 65)) := by
  subst hb
  have hg2 := World.grownBy_alloc w' (.cells cs 65) none
  have h2 := own_laid (e := 65) w' cs hn hm
  exact ⟨_, _, rfl, ⟨h2.1, h2.2.imp id fun ⟨g, cp, cur, a1, a2, a3⟩ => ⟨g, cp, cur, a1, Nat.le_trans hg.size a2, a3⟩⟩, h.on hg2, gr_trans hg hg2⟩
theorem PartsEnd.none_ (w : World) (D : Nat) {w' : World} (hg : w.grownBy w' none) : PartsEnd D [] w (.returned (.slice none 0 0)) w' := ⟨_, [], rfl, World.ownsRow_nil _ _ _ _, RdL.nil _ _, hg⟩
/-- What every case has: the box of the draft's address. -/
structure PBox (w : World) (D q : Nat) (W : World) : Prop where
  gr : w.grownBy W none
  cq : W.cell? ⟨q, 0, none⟩ = some (.pointer (some ⟨D, 0, none⟩))
  hq : w.heap.size = q
  lt : q < W.heap.size
theorem pbox (w : World) (D : Nat) : PBox w D w.heap.size (w.alloc (.cells #[.pointer (some ⟨D, 0, none⟩)] 59)) :=
  ⟨World.grownBy_alloc _ _ _, (Boxed.new w _ _).cell, rfl, by rw [World.size_alloc]; exact Nat.lt_succ_self _⟩
theorem replicate_max {op : Int} (v : List UInt8) (h : op = 0) : partsN op v ws = List.replicate (max ws.length 1) 0 := by unfold partsN; rw [if_pos h]
set_option maxRecDepth 100000 in
set_option maxHeartbeats 2000000 in
theorem parts0 (hD : w.heap[D]? = some (.cells (drC d ka c va vc) t (0, 0))) (hl : len ≤ 5000) (hop : d.op = 0) : Calls Tryd.prog 30 #[.pointer (some ⟨D, 0, none⟩), .slice a len cap] w fun e w' => PartsEnd D (List.replicate (max len 1) 0) w e w' := by
  have hlt : D < w.heap.size := (Array.getElem?_eq_some_iff.1 hD).1
  have hB := pbox w D
  have hDW := (hB.gr.block D hlt (by simp)).trans hD
  have co := dr_op hDW
  rw [hop] at co
  have cq := hB.cq
  have HB := hide hB
  clear hB
  have HK := hide (fun W => keys_any D (max len 1) (len : Int) (by omega) (by omega) W)
  go_enter Tryd.func30, Tryd.ntmps30
  go_wp2_with (go_at_call 47; refine (HK.out _).mono ?_; rintro e w1 ⟨v, rfl, o1, b1⟩)
  go_ret
  refine PartsEnd.up ⟨v, _, rfl, ?_, RdL.keys _ D _, gr_of_below b1⟩ HB.out.gr
  rw [List.length_replicate]
  exact o1
set_option maxRecDepth 100000 in
set_option maxHeartbeats 2000000 in
theorem parts3 (hD : w.heap[D]? = some (.cells (drC d ka c va vc) t (0, 0))) (hop : d.op = 3 ∨ d.op = 4 ∨ d.op = 5 ∨ d.op = 6 ∨ d.op = 7) : Calls Tryd.prog 30 #[.pointer (some ⟨D, 0, none⟩), .slice a len cap] w fun e w' => PartsEnd D (if d.verb = vb_cas then [0, 3, 1, 4, 5] else [0, 3, 1, 4]) w e w' := by
  have hlt : D < w.heap.size := (Array.getElem?_eq_some_iff.1 hD).1
  have hB := pbox w D
  have hDW := (hB.gr.block D hlt (by simp)).trans hD
  have co := dr_op hDW
  have cq := hB.cq
  have HB := hide hB
  have HS := hide (storing_any hDW)
  generalize (if d.verb = vb_cas then [0, 3, 1, 4, 5] else [0, 3, 1, 4]) = ks at *
  clear hB hDW hD
  rcases hop with h | h | h | h | h
  all_goals
    rw [h] at co
    clear h
    go_enter Tryd.func30, Tryd.ntmps30
    go_wp2_with (go_at_call 49; refine HS.out.mono ?_; rintro e w1 ⟨v, xs, rfl, o1, r1, b1⟩)
    go_ret
    exact PartsEnd.up ⟨v, xs, rfl, o1, r1, b1⟩ HB.out.gr
set_option maxRecDepth 100000 in
set_option maxHeartbeats 2000000 in
theorem parts8 (hD : w.heap[D]? = some (.cells (drC d ka c va vc) t (0, 0))) (hop : d.op = 8) : Calls Tryd.prog 30 #[.pointer (some ⟨D, 0, none⟩), .slice a len cap] w fun e w' => PartsEnd D [0] w e w' := by
  have hlt : D < w.heap.size := (Array.getElem?_eq_some_iff.1 hD).1
  have hB := pbox w D
  have hDW := (hB.gr.block D hlt (by simp)).trans hD
  have co := dr_op hDW
  rw [hop] at co
  have cq := hB.cq
  have HB := hide hB
  clear hB
  go_enter Tryd.func30, Tryd.ntmps30
  go_wp2
  go_ret
  exact PartsEnd.row (cs := #[keyV D]) (World.size_alloc _ _) ((RdL.nil _ D).cons rdKey) rfl (by decide) HB.out.gr
set_option maxRecDepth 100000 in
set_option maxHeartbeats 2000000 in
theorem parts2 (hD : w.heap[D]? = some (.cells (drC d ka c va vc) t (0, 0))) (hop : d.op = 2) : Calls Tryd.prog 30 #[.pointer (some ⟨D, 0, none⟩), .slice a len cap] w fun e w' => PartsEnd D [0, 1] w e w' := by
  have hlt : D < w.heap.size := (Array.getElem?_eq_some_iff.1 hD).1
  have hB := pbox w D
  have hDW := (hB.gr.block D hlt (by simp)).trans hD
  have co := dr_op hDW
  rw [hop] at co
  have cq := hB.cq
  have HB := hide hB
  clear hB
  go_enter Tryd.func30, Tryd.ntmps30
  go_wp2
  go_ret
  exact PartsEnd.row (cs := #[keyV D, expV D]) (World.size_alloc _ _) (((RdL.nil _ D).cons rdExp).cons rdKey) rfl (by decide) HB.out.gr
set_option maxRecDepth 100000 in
set_option maxHeartbeats 2000000 in
theorem parts15 (hD : w.heap[D]? = some (.cells (drC d ka c va vc) t (0, 0))) (hop : d.op = 15 ∨ d.op = 16) : Calls Tryd.prog 30 #[.pointer (some ⟨D, 0, none⟩), .slice a len cap] w fun e w' => PartsEnd D [] w e w' := by
  have hlt : D < w.heap.size := (Array.getElem?_eq_some_iff.1 hD).1
  have hB := pbox w D
  have hDW := (hB.gr.block D hlt (by simp)).trans hD
  have co := dr_op hDW
  have cq := hB.cq
  have HB := hide hB
  clear hB hDW hD
  rcases hop with h | h
  all_goals
    rw [h] at co
    clear h
    go_enter Tryd.func30, Tryd.ntmps30
    go_wp2
    go_ret
    exact PartsEnd.none_ w D HB.out.gr
set_option maxRecDepth 100000 in
set_option maxHeartbeats 2000000 in
theorem parts13 (hD : w.heap[D]? = some (.cells (drC d ka c va vc) t (0, 0))) (hW : Wu Q w a len cap ws) (hop : d.op = 13) : Calls Tryd.prog 30 #[.pointer (some ⟨D, 0, none⟩), .slice a len cap] w fun e w' => PartsEnd D (if ws ≠ [] ∧ quietN 13 ws 0 = false then [1] else []) w e w' := by
  have hlt : D < w.heap.size := (Array.getElem?_eq_some_iff.1 hD).1
  have hB := pbox w D
  have hDW := (hB.gr.block D hlt (by simp)).trans hD
  have co := dr_op hDW
  rw [hop] at co
  have cq := hB.cq
  have HB := hide hB
  clear hB
  have HI := hide (isQuiet_any hDW (hW.on fun b _ hb => HB.out.gr.block b hb (by simp)) 0 (by decide))
  rw [hop] at HI
  have hn := hW.n
  clear hDW hW hD
  by_cases h0 : len = 0
  · rw [if_neg (fun h => h.1 (List.eq_nil_of_length_eq_zero (hn.trans h0)))]
    subst h0
    clear HI
    go_enter Tryd.func30, Tryd.ntmps30
    go_wp2_with (go_at_call 31; refine HI.out.mono ?_; rintro e w1 ⟨rfl, rfl⟩)
    go_ret
    exact PartsEnd.none_ w D HB.out.gr
  · have hne : ws ≠ [] := fun e => h0 (by rw [← hn, e]; rfl)
    have hp : (0 : Int) < (len : Int) := by omega
    cases hq : quietN 13 ws 0
    · rw [if_pos ⟨hne, rfl⟩]
      rw [hq] at HI
      clear hq hne
      go_enter Tryd.func30, Tryd.ntmps30
      go_wp2_with (go_at_call 31; refine HI.out.mono ?_; rintro e w1 ⟨rfl, rfl⟩)
      go_ret
      exact PartsEnd.row (cs := #[expV D]) (World.size_alloc _ _) ((RdL.nil _ D).cons rdExp) rfl (by decide) HB.out.gr
    · rw [if_neg (fun h => by cases h.2)]
      rw [hq] at HI
      clear hq hne
      go_enter Tryd.func30, Tryd.ntmps30
      go_wp2_with (go_at_call 31; refine HI.out.mono ?_; rintro e w1 ⟨rfl, rfl⟩)
      go_ret
      exact PartsEnd.none_ w D HB.out.gr
end
end Go.Proofs.YtgekjakihocgnaaDoor

namespace Go.Proofs.YtgekjakihocgnaaDoor
set_option linter.unusedVariables false
open Go.RowKit

section
variable {Q : Nat → Prop} {w : World} {n0 D : Nat} {d : Dv} {ka va : Option Addr} {c vc : Nat} {t : TypeId} {a : Option Addr} {len cap : Nat} {ws : List (List UInt8)}
set_option maxRecDepth 100000 in
set_option maxHeartbeats 2000000 in
theorem parts10 (hD : w.heap[D]? = some (.cells (drC d ka c va vc) t (0, 0))) (hop : d.op = 10 ∨ d.op = 11) : Calls Tryd.prog 30 #[.pointer (some ⟨D, 0, none⟩), .slice a len cap] w fun e w' => PartsEnd D [0, 2] w e w' := by
  have hlt : D < w.heap.size := (Array.getElem?_eq_some_iff.1 hD).1
  have hB := pbox w D
  have hDW := (hB.gr.block D hlt (by simp)).trans hD
  have co := dr_op hDW
  obtain ⟨i0, hi, hz0, hz1, hz2⟩ := info_parts info_rd
  obtain ⟨q, hq⟩ : ∃ q, q = w.heap.size := ⟨_, rfl⟩
  obtain ⟨W, hW⟩ : ∃ W, W = w.alloc (.cells #[.pointer (some ⟨D, 0, none⟩)] 59) := ⟨_, rfl⟩
  have cq := hB.cq
  rw [← hq, ← hW] at hB
  have S0 : W.drew.cell? ⟨q, 0, none⟩ = some (.pointer (some ⟨D, 0, none⟩)) := hB.cq
  have hdl : q < W.drew.heap.size := hB.lt
  have hg2 : Hid (w.grownBy W.drew none) := gr_trans hB.gr (gr_drew W)
  clear hB hDW hD
  rcases hop with h | h
  all_goals
    rw [h] at co
    clear h
    go_enter Tryd.func30, Tryd.ntmps30
    go_wp2
    rw [← hW, ← hq]
    refine region_htail (S := fun W' => W'.cell? ⟨q, 0, none⟩ = some (.pointer (some ⟨D, 0, none⟩))) 4 (by kernel_rfl) (by simp) (by kernel_rfl) ?_
    simp only [List.take_succ_cons, List.take_zero, List.drop_succ_cons, List.drop_zero]
    have HQ := hide hq
    clear cq co hW hq
    generalize W.drew = W2 at *
    refine take_at 0 43 (v := .pointer (some ⟨D, 0, none⟩)) rfl rfl (by kernel_rfl) (by kernel_rfl) (by kernel_rfl) (fun _ _ _ h => h) (Or.inl ⟨by rfl, fun W hW => by go_simp⟩) S0 ?_
    simp only [Act.put, List.setIfInBounds_toArray, List.set_cons_zero, List.set_cons_succ]
    refine take_at 1 44 (v := .func (.func 50) #[.pointer (some ⟨D, 0, none⟩)] #[]) rfl rfl (by kernel_rfl) (by kernel_rfl) (by kernel_rfl) (fun _ _ _ h => h) (Or.inl ⟨by rfl, fun W hW => by go_simp⟩) S0 ?_
    simp only [Act.put, List.setIfInBounds_toArray, List.set_cons_zero, List.set_cons_succ]
    refine take_at 2 45 (v := .func (.func 52) #[] #[.pointer (some ⟨q, 0, none⟩)]) rfl rfl (by kernel_rfl) (by kernel_rfl) (by kernel_rfl) (fun _ _ _ h => h) (Or.inl ⟨by rfl, fun W hW => by go_simp⟩) S0 ?_
    simp only [Act.put, List.setIfInBounds_toArray, List.set_cons_zero, List.set_cons_succ]
    refine one_at 3 (by kernel_rfl) rfl rfl ?_
    refine oper_call 46 rfl (by go_simp; rfl) (tdec_any 18446744073709551615 (mkB t_delta) 52 q W2) ?_
    rintro e w1 ⟨g1, f1, p1, rfl, k1, B1⟩
    have S1 : w1.cell? ⟨q, 0, none⟩ = some (.pointer (some ⟨D, 0, none⟩)) := (World.cell?_of_block (k1.block q hdl (by simp))).trans S0
    refine ⟨_, rfl, S1, ?_⟩
    simp only [Act.put, List.setIfInBounds_toArray, List.set_cons_zero, List.set_cons_succ]
    refine wpAnyH_done (by kernel_rfl) ?_ _
    change wpList _ _ _ _ _ _
    have hs1 := hg2.out.size
    have hs2 := k1.size
    have hq := HQ.out
    have R2 : IsRd w1 w1.heap.size D 2 (numV g1 f1 p1) := rdNum (n1 := w.heap.size) (by decide) (by decide) (by decide) rfl rfl hlt hs1 (by omega) (by omega) S1 B1
    have RE := hide (PartsEnd.row (w := w) (cs := #[keyV D, numV g1 f1 p1]) rfl (((RdL.nil w1 D).cons R2).cons rdKey) rfl (by decide) (gr_trans hg2.out k1))
    clear R2 B1 S1 S0 k1 hg2 hs1 hs2 hq HQ hdl
    refine wpList_buildSlice rfl 61 65 2 _ rfl #[keyV D, numV g1 f1 p1] i0 .nilFunc Tryd.underlying61 hi hz0 (by rw [hz1]; decide) (by rw [hz1]; decide) (by rw [hz1]; kernel_rfl) ?_
    generalize w1.alloc (.cells #[keyV D, numV g1 f1 p1] 65) = W4 at *
    go_wp2
    go_ret
    exact RE.out
theorem own_base {n0 n1 n : Nat} {e : TypeId} {w : World} {v : Value} {xs : List Value} (h : w.ownsRow n0 e 1 v n xs) (hn : n1 ≤ n0) : w.ownsRow n1 e 1 v n xs := ⟨h.1, h.2.imp id fun ⟨g, cp, cur, a1, a2, a3⟩ => ⟨g, cp, cur, a1, Nat.le_trans hn a2, a3⟩⟩
theorem own_cell {n0 n g cap : Nat} {e : TypeId} {w : World} {xs : List Value} (h : w.ownsRow n0 e 1 (.slice (some ⟨g, 0, none⟩) n cap) n xs) (k : Nat) (u : Value) (hu : xs[k]? = some u) : w.cell? ((⟨g, 0, none⟩ : Addr).add k) = some u := by
  rw [add_at, Nat.zero_add]
  have hl : xs.length = n * 1 := h.1
  have hk : k < xs.length := (List.getElem?_eq_some_iff.1 hu).1
  rw [h.cellAt k (by omega)]
  exact hu
theorem oper_build (d : Nat) {P : Program} {o : Oper} {a : Act} {w : World} {K : Act → World → Prop} {Q : Exit → Act → World → Prop} (hd : o.dst = some d) (t e : TypeId) (len : Nat) (parts : Array (Nat × Operand)) (ho : o.op = .buildSlice t len parts)
    (cells : Array Value) (ie : TypeInfo) (z : Value)
    (hu : P.underlying t = some (.slice e)) (hie : P.info? e = some ie) (hz : ie.zero = some z) (hsmall : ¬ len * ie.size > 2 ^ 24) (hpos : ¬ len * ie.size = 0)
    (hf : Instr.fill (fun i => some (i * ie.size, ie.size)) ((Array.range (len * ie.size)).map (z.cells[· % z.cells.size]!)) (parts.map fun (i, x) => (i, a.eval x)).toList = some cells)
    (h : K (a.put (some d) (.slice (some ⟨w.heap.size, 0, none⟩) len len)) (w.alloc (.cells cells e))) : o.wp P a w K Q := wp_buildSlice t e len parts ho cells ie z hu hie hz hsmall hpos hf (by rw [hd]; exact h)
/-- Readings appended to one reading. -/
theorem parts1_end {n b : Nat} {w3 w4 : World} {v' : Value} (hlt : D < w.heap.size) (hg : w.grownBy w3 none) (hb : w.heap.size ≤ b) (ho : w4.ownsRow w.heap.size 65 1 v' (1 + n) ([expV D] ++ List.replicate n (keyV D))) (hk : w3.grownBy w4 (some b)) : PartsEnd D (1 :: List.replicate n 0) w (.returned v') w4 := by
  refine ⟨v', _, rfl, ?_, (RdL.keys w4 D n).cons rdExp, gr_new hg hk hb⟩
  rw [List.length_cons, List.length_replicate, Nat.add_comm]
  exact ho
set_option maxRecDepth 100000 in
set_option maxHeartbeats 2000000 in
theorem parts1 (hD : w.heap[D]? = some (.cells (drC d ka c va vc) t (0, 0))) (hl : len ≤ 5000) (hop : d.op = 1) : Calls Tryd.prog 30 #[.pointer (some ⟨D, 0, none⟩), .slice a len cap] w fun e w' => PartsEnd D (1 :: List.replicate (max (len - 1) 1) 0) w e w' := by
  have hlt : D < w.heap.size := (Array.getElem?_eq_some_iff.1 hD).1
  have hB := pbox w D
  have hDW := (hB.gr.block D hlt (by simp)).trans hD
  have co := dr_op hDW
  obtain ⟨i0, hi, hz0, hz1, hz2⟩ := info_parts info_rd
  obtain ⟨q, hq⟩ : ∃ q, q = w.heap.size := ⟨_, rfl⟩
  obtain ⟨W, hW⟩ : ∃ W, W = w.alloc (.cells #[.pointer (some ⟨D, 0, none⟩)] 59) := ⟨_, rfl⟩
  have cq := hB.cq
  rw [← hq, ← hW] at hB
  have S0 : W.drew.cell? ⟨q, 0, none⟩ = some (.pointer (some ⟨D, 0, none⟩)) := hB.cq
  have hdl : q < W.drew.heap.size := hB.lt
  have hg2 : Hid (w.grownBy W.drew none) := gr_trans hB.gr (gr_drew W)
  clear hB hDW hD
  rw [hop] at co
  have e1 : wrap64 ((len : Int) - 1) = (len : Int) - 1 := by unfold wrap64; omega
  obtain ⟨n, hn⟩ : ∃ n, n = max (len - 1) 1 := ⟨_, rfl⟩
  rw [← hn]
  have HK := hide (fun W => keys_any D n ((len : Int) - 1) (by omega) (by omega) W)
  have hn1 : 0 < n := by omega
  have hn5 : n ≤ 5000 := by omega
  clear hn
  go_enter Tryd.func30, Tryd.ntmps30
  go_wp2
  rw [← hW, ← hq]
  refine region_htail (S := fun W' => W'.cell? ⟨q, 0, none⟩ = some (.pointer (some ⟨D, 0, none⟩))) 8 (by kernel_rfl) (by simp) (by kernel_rfl) ?_
  simp only [List.take_succ_cons, List.take_zero, List.drop_succ_cons, List.drop_zero]
  have HQ := hide hq
  clear cq co hW hq
  generalize W.drew = W2 at *
  refine take_at 0 18 (v := .pointer (some ⟨D, 0, none⟩)) rfl rfl (by kernel_rfl) (by kernel_rfl) (by kernel_rfl) (fun _ _ _ h => h) (Or.inl ⟨by rfl, fun W hW => by go_simp⟩) S0 ?_
  simp only [Act.put, List.setIfInBounds_toArray, List.set_cons_zero, List.set_cons_succ]
  refine take_at 1 19 (v := .func (.func 48) #[.pointer (some ⟨D, 0, none⟩)] #[]) rfl rfl (by kernel_rfl) (by kernel_rfl) (by kernel_rfl) (fun _ _ _ h => h) (Or.inl ⟨by rfl, fun W hW => by go_simp⟩) S0 ?_
  simp only [Act.put, List.setIfInBounds_toArray, List.set_cons_zero, List.set_cons_succ]
  refine take_at 3 21 (v := .pointer (some ⟨D, 0, none⟩)) rfl rfl (by kernel_rfl) (by kernel_rfl) (by kernel_rfl) (fun _ _ _ h => h) (Or.inl ⟨by rfl, fun W hW => by go_simp⟩) S0 ?_
  simp only [Act.put, List.setIfInBounds_toArray, List.set_cons_zero, List.set_cons_succ]
  refine take_at 4 22 (v := .slice a len cap) rfl rfl (by kernel_rfl) (by kernel_rfl) (by kernel_rfl) (fun _ _ _ h => h) (Or.inl ⟨by rfl, fun W hW => by go_simp⟩) S0 ?_
  simp only [Act.put, List.setIfInBounds_toArray, List.set_cons_zero, List.set_cons_succ]
  refine take_at 5 23 (v := .int .i64 (len : Int)) rfl rfl (by kernel_rfl) (by kernel_rfl) (by kernel_rfl) (fun _ _ _ h => h) (Or.inl ⟨by rfl, fun W hW => by go_simp⟩) S0 ?_
  simp only [Act.put, List.setIfInBounds_toArray, List.set_cons_zero, List.set_cons_succ]
  refine take_at 6 24 (v := .int .i64 ((len : Int) - 1)) rfl rfl (by kernel_rfl) (by kernel_rfl) (by kernel_rfl) (fun _ _ _ h => h) (Or.inl ⟨by rfl, fun W hW => by go_simp; rw [IntKind.wrap_i64]; omega⟩) S0 ?_
  simp only [Act.put, List.setIfInBounds_toArray, List.set_cons_zero, List.set_cons_succ]
  have hq := HQ.out
  have hs1 := hg2.out.size
  refine wpAnyH_all (rs := [2, 7]) (by kernel_rfl) (by simp) ?_
  intro i hi27
  obtain rfl | rfl : i = 2 ∨ i = 7 := by simpa using hi27
  · refine wpOp_plain rfl rfl ?_
    refine oper_build 20 rfl 61 65 1 _ rfl #[expV D] i0 .nilFunc Tryd.underlying61 hi hz0 (by rw [hz1]; decide) (by rw [hz1]; decide) (by rw [hz1]; kernel_rfl) ?_
    have g3 := World.grownBy_alloc W2 (.cells #[expV D] 65) none
    have S3 := (World.cell?_of_block (a := ⟨q, 0, none⟩) (g3.block q hdl (by simp))).trans S0
    have o3 := own_laid (e := 65) W2 #[expV D] (n := 1) rfl (by decide)
    refine ⟨S3, ?_⟩
    simp only [Act.put, List.setIfInBounds_toArray, List.set_cons_zero, List.set_cons_succ]
    obtain ⟨B, hB⟩ : ∃ B, B = W2.heap.size := ⟨_, rfl⟩
    rw [← hB] at o3 ⊢
    generalize W2.alloc (.cells #[expV D] 65) = W3 at *
    refine one_at 7 (by kernel_rfl) rfl rfl ?_
    refine oper_call 25 rfl (by go_simp) (HK.out W3) ?_
    rintro e w5 ⟨v5, rfl, o5, b5⟩
    obtain ⟨g5, c5, rfl⟩ := own_form o5 hn1
    have k5 := gr_of_below b5
    have S5 := (World.cell?_of_block (a := ⟨q, 0, none⟩) (k5.block q (Nat.lt_of_lt_of_le hdl g3.size) (by simp))).trans S3
    refine ⟨_, rfl, S5, ?_⟩
    simp only [Act.put, List.setIfInBounds_toArray, List.set_cons_zero, List.set_cons_succ]
    refine wpAnyH_done (by kernel_rfl) ?_ _
    have O1 := hide (own_base (own_on o3 k5) (show w.heap.size ≤ B by omega))
    have G5 := hide (gr_trans hg2.out (gr_trans g3 k5))
    have O2 := hide o5
    have HBb : Hid (w.heap.size ≤ B) := (show w.heap.size ≤ B by omega)
    have GB : Hid (w.heap.size ≤ w5.heap.size) := G5.out.size
    clear hB S5 k5 b5 o5 g3 S3 o3 S0 hdl hg2 hs1 hq HQ HK hi27
    change wpList _ _ _ _ _ _
    refine wpList_append_own _ rfl _ _ 61 rfl w.heap.size 65 i0 .nilFunc 1 8 Tryd.underlying61 hi hz0 hz1 hz2 rfl (by decide) (.slice (some ⟨B, 0, none⟩) 1 1) 1 [expV D] rfl O1.out ⟨g5, 0, none⟩ n c5 (List.replicate n (keyV D)) rfl (by rw [List.length_replicate, Nat.mul_one]) (fun k u hu => own_cell O2.out k u hu) (fun u hu => by rw [List.eq_of_mem_replicate hu]; rfl) (by unfold maxLen; omega) (by omega) GB.out ?_
    intro v' w6 o6 k6 _
    have RE := hide (parts1_end hlt G5.out HBb.out o6 k6)
    clear o6 k6
    go_wp2
    go_ret
    exact RE.out
  · refine wpOp_plain rfl rfl ?_
    refine oper_call 25 rfl (by go_simp) (HK.out W2) ?_
    rintro e w5 ⟨v5, rfl, o5, b5⟩
    obtain ⟨g5, c5, rfl⟩ := own_form o5 hn1
    have k5 := gr_of_below b5
    have S5 := (World.cell?_of_block (a := ⟨q, 0, none⟩) (k5.block q hdl (by simp))).trans S0
    refine ⟨_, rfl, S5, ?_⟩
    simp only [Act.put, List.setIfInBounds_toArray, List.set_cons_zero, List.set_cons_succ]
    refine one_at 2 (by kernel_rfl) rfl rfl ?_
    refine oper_build 20 rfl 61 65 1 _ rfl #[expV D] i0 .nilFunc Tryd.underlying61 hi hz0 (by rw [hz1]; decide) (by rw [hz1]; decide) (by rw [hz1]; kernel_rfl) ?_
    have g3 := World.grownBy_alloc w5 (.cells #[expV D] 65) none
    have S3 := (World.cell?_of_block (a := ⟨q, 0, none⟩) (g3.block q (Nat.lt_of_lt_of_le hdl k5.size) (by simp))).trans S5
    have o3 := own_laid (e := 65) w5 #[expV D] (n := 1) rfl (by decide)
    refine ⟨S3, ?_⟩
    simp only [Act.put, List.setIfInBounds_toArray, List.set_cons_zero, List.set_cons_succ]
    obtain ⟨B, hB⟩ : ∃ B, B = w5.heap.size := ⟨_, rfl⟩
    rw [← hB] at o3 ⊢
    have k5s := k5.size
    generalize w5.alloc (.cells #[expV D] 65) = W3 at *
    refine wpAnyH_done (by kernel_rfl) ?_ _
    have O1 := hide (own_base o3 (show w.heap.size ≤ B by omega))
    have G5 := hide (gr_trans hg2.out (gr_trans k5 g3))
    have O2 := hide (own_on o5 g3)
    have HBb : Hid (w.heap.size ≤ B) := (show w.heap.size ≤ B by omega)
    have GB : Hid (w.heap.size ≤ W3.heap.size) := G5.out.size
    clear hB S5 k5 k5s b5 o5 g3 S3 o3 S0 hdl hg2 hs1 hq HQ HK hi27
    change wpList _ _ _ _ _ _
    refine wpList_append_own _ rfl _ _ 61 rfl w.heap.size 65 i0 .nilFunc 1 8 Tryd.underlying61 hi hz0 hz1 hz2 rfl (by decide) (.slice (some ⟨B, 0, none⟩) 1 1) 1 [expV D] rfl O1.out ⟨g5, 0, none⟩ n c5 (List.replicate n (keyV D)) rfl (by rw [List.length_replicate, Nat.mul_one]) (fun k u hu => own_cell O2.out k u hu) (fun u hu => by rw [List.eq_of_mem_replicate hu]; rfl) (by unfold maxLen; omega) (by omega) GB.out ?_
    intro v' w6 o6 k6 _
    have RE := hide (parts1_end hlt G5.out HBb.out o6 k6)
    clear o6 k6
    go_wp2
    go_ret
    exact RE.out
theorem parts_any (hD : w.heap[D]? = some (.cells (drC d ka c va vc) t (0, 0))) (hW : Wu Q w a len cap ws) (hl : len ≤ 5000) (hop : (opN d.verb) = some d.op) : Calls Tryd.prog 30 #[.pointer (some ⟨D, 0, none⟩), .slice a len cap] w fun e w' => PartsEnd D (partsN d.op d.verb ws) w e w' := by
  have hn := hW.n
  have hv : d.op = 0 ∨ d.op = 1 ∨ (d.op = 3 ∨ d.op = 4 ∨ d.op = 5 ∨ d.op = 6 ∨ d.op = 7) ∨ d.op = 8 ∨ (d.op = 10 ∨ d.op = 11) ∨ d.op = 2 ∨ d.op = 13 ∨ (d.op = 15 ∨ d.op = 16) := by
    rcases verbs d.verb with h | h | h | h | h | h | h | h | h | h | h | h | h | h | h | h | h | h
    · rw [h] at hop
      have := Option.some.inj (opN_get.symm.trans hop)
      omega
    · rw [h] at hop
      have := Option.some.inj (opN_gets.symm.trans hop)
      omega
    · rw [h] at hop
      have := Option.some.inj (opN_gat.symm.trans hop)
      omega
    · rw [h] at hop
      have := Option.some.inj (opN_gats.symm.trans hop)
      omega
    · rw [h] at hop
      have := Option.some.inj (opN_set.symm.trans hop)
      omega
    · rw [h] at hop
      have := Option.some.inj (opN_cas.symm.trans hop)
      omega
    · rw [h] at hop
      have := Option.some.inj (opN_add.symm.trans hop)
      omega
    · rw [h] at hop
      have := Option.some.inj (opN_replace.symm.trans hop)
      omega
    · rw [h] at hop
      have := Option.some.inj (opN_append.symm.trans hop)
      omega
    · rw [h] at hop
      have := Option.some.inj (opN_prepend.symm.trans hop)
      omega
    · rw [h] at hop
      have := Option.some.inj (opN_delete.symm.trans hop)
      omega
    · rw [h] at hop
      have := Option.some.inj (opN_incr.symm.trans hop)
      omega
    · rw [h] at hop
      have := Option.some.inj (opN_decr.symm.trans hop)
      omega
    · rw [h] at hop
      have := Option.some.inj (opN_touch.symm.trans hop)
      omega
    · rw [h] at hop
      have := Option.some.inj (opN_flush.symm.trans hop)
      omega
    · rw [h] at hop
      have := Option.some.inj (opN_version.symm.trans hop)
      omega
    · rw [h] at hop
      have := Option.some.inj (opN_quit.symm.trans hop)
      omega
    · rw [h.op] at hop
      cases hop
  unfold partsN
  rcases hv with h | h | h | h | h | h | h | h
  · rw [if_pos h, hn]
    exact parts0 hD hl h
  · rw [if_neg (by omega), if_pos h, hn]
    exact parts1 hD hl h
  · rw [if_neg (by omega), if_neg (by omega), if_pos (by omega)]
    exact parts3 hD h
  · rw [if_neg (by omega), if_neg (by omega), if_neg (by omega), if_pos h]
    exact parts8 hD h
  · rw [if_neg (by omega), if_neg (by omega), if_neg (by omega), if_neg (by omega), if_pos h]
    exact parts10 hD h
  · rw [if_neg (by omega), if_neg (by omega), if_neg (by omega), if_neg (by omega), if_neg (by omega), if_pos h]
    exact parts2 hD h
  · rw [if_neg (by omega), if_neg (by omega), if_neg (by omega), if_neg (by omega), if_neg (by omega), if_neg (by omega), if_pos h]
    have := parts13 hD hW h
    rw [h]
    exact this
  · rw [if_neg (by omega), if_neg (by omega), if_neg (by omega), if_neg (by omega), if_neg (by omega), if_neg (by omega), if_neg (by omega)]
    exact parts15 hD h
end
end Go.Proofs.YtgekjakihocgnaaDoor
