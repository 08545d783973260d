/- Package lined's Parse, where no line is read; the words of a line, gathered. Conditions: none. A region that draws its order, walked once in the order of the text, in a class of worlds. Over the library's theorems. Conditions: none. -/
import Derived.Test.YthofdmepofepgaaDoorLinedN
import Derived.Test.YthofdmepofepgaaDoorG32Joined
import Derived.Test.YthofdmepofepgaaDoorG29Joined
import Derived.Test.YthofdmepofepgaaDoorRegionHT
import Derived.Test.YthofdmepofepgaaDoorG03Joined
namespace Go.Proofs.YthofdmepofepgaaDoor
set_option linter.unusedVariables false
open Go.RowKit

section
variable {w : World} {a : Option Addr} {len cap : Nat} {l : List UInt8}
set_option maxRecDepth 100000 in
set_option maxHeartbeats 2000000 in
theorem parse_more (fv : Value) (h : Bu w a len cap l) (he : (lineN l).2.2 = 3) : Calls Tryd.prog 12 #[.slice a len cap, fv] w fun e w' => ParseEnd moreS w e w' := by
  obtain ⟨W0, hW0⟩ : ∃ W0, W0 = w.alloc (.cells #[.slice none 0 0, .int .i64 0, .string ⟨#[]⟩, .int .i64 0, .int .u32 0, .bool false, .bool false, .string ⟨#[]⟩, .slice none 0 0, .slice none 0 0, .bool false, .string ⟨#[]⟩, .int .i64 0, .int .i64 0, .bool false, .int .i64 0] 33) := ⟨_, rfl⟩
  have g0 : w.grownBy W0 none := by rw [hW0]; exact World.grownBy_alloc _ _ _
  have r0 : W0.heap[w.heap.size]? = some (.cells #[.slice none 0 0, .int .i64 0, .string ⟨#[]⟩, .int .i64 0, .int .u32 0, .bool false, .bool false, .string ⟨#[]⟩, .slice none 0 0, .slice none 0 0, .bool false, .string ⟨#[]⟩, .int .i64 0, .int .i64 0, .bool false, .int .i64 0] 33 (0, 0)) := by rw [hW0]; exact World.alloc_heap_new w _
  have hz0 : W0.heap.size = w.heap.size + 1 := by rw [hW0, World.size_alloc]
  have R0 := hide (fun (w1 : World) (g1 : W0.grownBy w1 none) => (g1.block w.heap.size (by omega) (by simp)).trans r0)
  have G0 := hide g0
  have HL := hide (line_any (h.on (below_gr g0)))
  have HE := hide (fun (w1 : World) (g1 : W0.grownBy w1 none) => pbare_end (w := w) (s := moreS) rfl (R0.out w1 g1) (gr_trans G0.out g1))
  generalize lineN l = x at *
  obtain ⟨x1, x2, x3⟩ := x
  simp only [lineV] at *
  subst he
  clear h r0 g0
  go_enter Tryd.func12, Tryd.ntmps12
  go_wp2_with (first
    | (go_at_call 17; rw [← hW0]; refine HL.out.mono ?_; rintro e w1 ⟨rfl, g1⟩; replace g1 := hide g1)
    | (refine wpList_store_row rfl 33 _ _ rfl w.heap.size (stC moreS none 0 none 0 none 0) rfl rfl _ _ (R0.out w1 g1.out) (step_size _ _ _ _ _ _ _) rfl (step_one _ _ _ _ _ _ _) ?_))
  exact step_ret rfl (HE.out w1 g1.out).1 rfl rfl (HE.out w1 g1.out).2
/-- The last byte of a line that is too long. -/
theorem long_last (he : (lineN l).2.2 = 4) : ∃ u : Nat, ∃ hu : u < l.length, (lineN l).2.1 = (u : Int) + 1 ∧ (((l[u]'hu).toNat : Int) != 10) = (cutL l).isNone := by
  rcases feeds l with hf | ⟨p, r, rfl, hf⟩
  · rw [lineN_no hf] at he ⊢
    rw [cutL_no l hf]
    split at he
    · rename_i h1
      rw [if_pos h1]
      refine ⟨l.length - 1, by omega, by simp only []; omega, ?_⟩
      have hne : l[l.length - 1]'(by omega) ≠ 10 := fun e => hf (by rw [← e]; exact List.getElem_mem _)
      have : ((l[l.length - 1]'(by omega)).toNat : Int) ≠ 10 := fun e => hne (by apply UInt8.toNat_inj.1; have : (10 : UInt8).toNat = 10 := rfl; omega)
      simpa using this
    · simp at he
  · rw [lineN_of hf] at he ⊢
    rw [cutL_of p r hf]
    split at he
    · rename_i h1
      rw [if_pos h1]
      refine ⟨p.length, by simp, rfl, ?_⟩
      simp
    · simp at he
set_option maxRecDepth 100000 in
set_option maxHeartbeats 2000000 in
theorem parse_long (fv : Value) (h : Bu w a len cap l) (he : (lineN l).2.2 = 4) : Calls Tryd.prog 12 #[.slice a len cap, fv] w fun e w' => ParseEnd { refuseS t_long (lineN l).2.1 with line := (cutL l).isNone } w e w' := by
  obtain ⟨W0, hW0⟩ : ∃ W0, W0 = w.alloc (.cells #[.slice none 0 0, .int .i64 0, .string ⟨#[]⟩, .int .i64 0, .int .u32 0, .bool false, .bool false, .string ⟨#[]⟩, .slice none 0 0, .slice none 0 0, .bool false, .string ⟨#[]⟩, .int .i64 0, .int .i64 0, .bool false, .int .i64 0] 33) := ⟨_, rfl⟩
  have g0 : w.grownBy W0 none := by rw [hW0]; exact World.grownBy_alloc _ _ _
  have r0 : W0.heap[w.heap.size]? = some (.cells #[.slice none 0 0, .int .i64 0, .string ⟨#[]⟩, .int .i64 0, .int .u32 0, .bool false, .bool false, .string ⟨#[]⟩, .slice none 0 0, .slice none 0 0, .bool false, .string ⟨#[]⟩, .int .i64 0, .int .i64 0, .bool false, .int .i64 0] 33 (0, 0)) := by rw [hW0]; exact World.alloc_heap_new w _
  have hz0 : W0.heap.size = w.heap.size + 1 := by rw [hW0, World.size_alloc]
  have R0 := hide (fun (w1 : World) (g1 : W0.grownBy w1 none) => (g1.block w.heap.size (by omega) (by simp)).trans r0)
  have G0 := hide g0
  have HL := hide (line_any (h.on (below_gr g0)))
  obtain ⟨u, hu, hx2, hlast⟩ := long_last he
  have hn := h.n
  have hc := h.c
  have hm := h.m
  unfold maxLen at hm
  obtain ⟨ab, ao, rfl, hcell⟩ := h.cell (by omega)
  have cu := fun (W : World) (hb : w.grownBy W none) => (((below_gr hb).cell (p := ⟨ab, ao + u, none⟩) (World.block_lt_of_cell? w _ (hcell u hu))).trans (hcell u hu))
  generalize (cutL l).isNone = last at *
  obtain ⟨cb, hcb⟩ : ∃ cb : Int, cb = ((l[u]'hu).toNat : Int) := ⟨_, rfl⟩
  rw [← hcb] at hlast cu
  generalize lineN l = x at *
  obtain ⟨x1, x2, x3⟩ := x
  simp only [lineV] at *
  subst he hx2
  have HF := hide (fun W => refuse_any t_long (by decide) ((u : Int) + 1) W)
  rw [← long_is] at HF
  have HE := hide (fun (w1 : World) (g1 : W0.grownBy w1 none) => pbare_end (w := w) (s := { refuseS t_long ((u : Int) + 1) with line := last }) rfl (R0.out w1 g1) (gr_trans G0.out g1))
  have HS := hide (set_line (refuseS t_long ((u : Int) + 1)) last none none none 0 0 0)
  generalize refuseS t_long ((u : Int) + 1) = y at *
  have hui : (u : Int) < (len : Int) := by omega
  have e1 : wrap64 ((u : Int) + 1 - 1) = (u : Int) := by unfold wrap64; omega
  have e2 : wrap64 (u : Int) = (u : Int) := by unfold wrap64; omega
  have HCU := hide cu
  clear h r0 g0 hcell hcb cu hn hc hm
  go_enter Tryd.func12, Tryd.ntmps12
  go_wp2_with (first
    | (go_at_call 17; rw [← hW0]; refine HL.out.mono ?_; rintro e w1 ⟨rfl, g1⟩; replace g1 := hide g1)
    | (go_at_call 18; refine (HF.out _).mono ?_; rintro e w2 ⟨rfl, g2⟩; obtain ⟨B, hB⟩ : ∃ B, B = w2.heap.size := ⟨_, rfl⟩; obtain ⟨W2, hW2⟩ : ∃ W2, W2 = w2.alloc (.cells (stC y none 0 none 0 none 0) 33) := ⟨_, rfl⟩; have kk : w.grownBy W2 none := (by rw [hW2]; exact gr_trans G0.out (gr_trans g1.out (gr_trans g2 (World.grownBy_alloc _ _ _)))); have q2 := HCU.out W2 kk; obtain ⟨c2, f2, n3, k3⟩ := cell_mid (j := 14) (v := .bool last) hW2 hB g1.out g2 rfl HS.out; obtain ⟨W3, hW3⟩ : ∃ W3, W3 = W2.setCell ⟨B, 14, none⟩ (.bool last) := ⟨_, rfl⟩; rw [← hW3] at n3 k3; replace n3 := hide n3; replace k3 := hide k3; have HW3 := hide hW3; clear hW3 g2 kk)
    | (refine wpList_store_row rfl 33 _ _ rfl w2.heap.size (stC y none 0 none 0 none 0) rfl rfl _ _ (World.alloc_heap_new w2 _) (step_size _ _ _ _ _ _ _) rfl (step_one _ _ _ _ _ _ _) ?_; rw [setRow_alloc, ← hW2, ← hB]; clear hW2 hB)
    | (rw [← HW3.out]; refine wpList_load_row rfl 33 _ rfl B rfl _ (stC { y with line := last } none 0 none 0 none 0) _ _ n3.out Tryd.underlying33 rfl (step_size _ _ _ _ _ _ _) ?_)
    | (refine wpList_store_row rfl 33 _ _ rfl w.heap.size (stC { y with line := last } none 0 none 0 none 0) rfl rfl _ _ (R0.out W3 k3.out) (step_size _ _ _ _ _ _ _) rfl (step_one _ _ _ _ _ _ _) ?_))
  exact step_ret rfl (HE.out W3 k3.out).1 rfl rfl (HE.out W3 k3.out).2
/-- What a line that is there takes. -/
theorem line_used (he : (lineN l).2.2 = 0) : (lineN l).1.length ≤ 2048 ∧ ∃ u : Nat, (lineN l).2.1 = (u : Int) ∧ u ≤ l.length := by
  rcases feeds l with hf | ⟨p, r, rfl, hf⟩
  · rw [lineN_no hf] at he
    split at he
    · simp at he
    · simp at he
  · rw [lineN_of hf] at he ⊢
    split at he
    · simp at he
    · rename_i h1
      rw [if_neg h1]
      refine ⟨by simp only []; omega, p.length + 1, by simp, by simp⟩
/-- The words are gathered: they may be read. -/
theorem gathered {w1 w2 : World} {v : Value} {x1 : List UInt8} (o2 : w2.ownsRow w1.heap.size 9 1 v (wordsB ⟨x1.toArray⟩).length ((wordsB ⟨x1.toArray⟩).map Value.string)) : ∃ wa wc, v = .slice wa (wordsL x1).length wc ∧ Wu (fun _ => True) w2 wa (wordsL x1).length wc (wordsL x1) := by
  have ew : wordsB ⟨x1.toArray⟩ = (wordsL x1).map mkB := by rw [wordsB_L]
  rw [ew, List.length_map, List.map_map] at o2
  obtain ⟨wa, wc, rfl⟩ := own_shape o2
  refine ⟨wa, wc, rfl, rfl, (own_cap o2).1, (own_cap o2).2, fun e => ?_, ?_⟩
  · subst e
    rcases o2.2 with ⟨h3, _⟩ | ⟨g, cp, cur, h3, _⟩
    · exact (Value.slice.inj h3).2.2
    · cases h3
  · by_cases h0 : (wordsL x1).length = 0
    · exact .inl h0
    · obtain ⟨g, cp, e⟩ := own_form o2 (by omega)
      cases e
      have hat := own_at o2 rfl
      refine .inr ⟨g, 0, rfl, trivial, hat.2.1, fun i hi => ?_⟩
      rw [Nat.zero_add, o2.cellAt i (by omega), List.getElem?_map, List.getElem?_eq_getElem hi]
      rfl
/-- A step in a block of its own, of which one cell is set later. -/
theorem cell_mid2 {W0 w2 W2 w8 : World} {B j : Nat} {s s' : Sv} {v x : Value} (hW2 : W2 = w2.alloc (.cells (stC s none 0 none 0 none 0) 33)) (hB : B = w2.heap.size) (g1 : W0.grownBy w2 none) (g8 : W2.grownBy w8 none) (hx : (stC s none 0 none 0 none 0)[j]? = some x) (hS : (stC s none 0 none 0 none 0).setIfInBounds j v = stC s' none 0 none 0 none 0) :
    w8.cell? ⟨B, j, none⟩ = some x ∧ w8.frozen? ⟨B, j, none⟩ = false ∧ (w8.setCell ⟨B, j, none⟩ v).heap[B]? = some (.cells (stC s' none 0 none 0 none 0) 33 (0, 0)) ∧ W0.grownBy (w8.setCell ⟨B, j, none⟩ v) none := by
  have hb : B < W2.heap.size := by rw [hB, hW2, World.size_alloc]; omega
  have n2 : w8.heap[B]? = some (.cells (stC s none 0 none 0 none 0) 33 (0, 0)) := (g8.block B hb (by simp)).trans (by rw [hW2, hB]; exact World.alloc_heap_new _ _)
  have k2 : W0.grownBy w8 none := gr_trans (by rw [hW2]; exact gr_trans g1 (World.grownBy_alloc _ _ _)) g8
  have n3 := heap_setCell_same w8 B j _ _ v n2
  rw [hS] at n3
  have hb2 : W0.heap.size ≤ B := by rw [hB]; exact g1.size
  exact ⟨by unfold World.cell?; rw [n2]; exact hx, frozen_of_row _ _ _ _ _ n2, n3, ⟨k2.1, k2.2, k2.3, by rw [World.size_setCell]; exact k2.size, fun b hb _ => (heap_setCell_other _ _ _ _ (show b ≠ B by omega)).trans (k2.block b hb (by simp))⟩⟩
/-- What finish answers, and what lay ahead of it. -/
theorem fin_over {n0 : Nat} {s : Sv} {W0 W1 w' : World} {e : Ending} (h : FinEnd n0 s W1 e w') (g : W0.grownBy W1 none) (hn : W0.heap.size ≤ n0) : ∃ ca cc ta tc ka kc, e = .returned (.agg (stC s ca cc ta tc ka kc)) ∧ (∀ W' : World, (∀ k, n0 ≤ k → k < w'.heap.size → W'.heap[k]? = w'.heap[k]?) → w'.heap.size ≤ W'.heap.size → QAt W' s.req ca cc ta tc ka kc) ∧ W0.grownBy w' none := by
  obtain ⟨ca, cc, ta, tc, ka, kc, h1, h2, h3⟩ := h
  exact ⟨ca, cc, ta, tc, ka, kc, h1, h2, h3.os.trans g.os, h3.tape.trans g.tape, h3.output.trans g.output, Nat.le_trans g.size h3.size, fun b hb _ => (h3.block b (Nat.lt_of_lt_of_le hb g.size) (by omega)).trans (g.block b hb (by simp))⟩
theorem parse_end {n0 : Nat} {W : World} {old : Array Value} {s : Sv} {ca ta ka : Option Addr} {cc tc kc : Nat} (hr : W.heap[w.heap.size]? = some (.cells old 33 (0, 0))) (hn : w.heap.size < n0) (hg : w.grownBy W none) (hs : ∀ W' : World, (∀ k, n0 ≤ k → k < W.heap.size → W'.heap[k]? = W.heap[k]?) → W.heap.size ≤ W'.heap.size → QAt W' s.req ca cc ta tc ka kc) :
    (W.setRow w.heap.size (stC s ca cc ta tc ka kc)).heap[w.heap.size]? = some (.cells (stC s ca cc ta tc ka kc) 33 (0, 0)) ∧ ParseEnd s w (.returned (.agg (stC s ca cc ta tc ka kc))) (W.setRow w.heap.size (stC s ca cc ta tc ka kc)) :=
  ⟨setRow_heap W _ old _ _ _ hr, ca, cc, ta, tc, ka, kc, rfl, fun W' hw hz => hs W' (fun k hk hl => (hw k (by omega) (by rw [size_setRow]; exact hl)).trans (setRow_other W _ k _ (by omega))) (by rw [size_setRow] at hz; exact hz), ⟨hg.os, hg.tape, hg.output, by rw [size_setRow]; exact hg.size, fun k hk hn => (setRow_other W _ k _ (by omega)).trans (hg.block k hk hn)⟩⟩
theorem setRow_at {W : World} {k : Nat} {old cs : Array Value} {t : TypeId} (hk : k = W.heap.size) : (W.alloc (.cells old t)).setRow k cs = W.alloc (.cells cs t) := by
  subst hk
  exact setRow_alloc W old cs t
/-- 'b[i:]', whatever the world: its value, and how it is made. -/
theorem line_ways (l : List UInt8) : (lineN l).2.2 = 3 ∨ (lineN l).2.2 = 4 ∨ (lineN l).2.2 = 0 := by
  unfold lineN
  split
  · split <;> simp
  · split <;> simp
end
end Go.Proofs.YthofdmepofepgaaDoor

namespace Go.Proofs.YthofdmepofepgaaDoor
set_option linter.unusedVariables false
open Go.RowKit Go.Shelf

/-- One operation of a walk in a class of worlds: its value, in each of them. -/
theorem class_put {P : Program} {C : World → Prop} {Q : Act → Prop} {ops : Array Oper} {o : Oper} {rest : List Oper} {a a' : Act} (v : Value) (hw : Region.wanted o (yielded ops a.tmps) = true)
    (h : ∀ w, C w → o.quietAt P a C w v) (ha : a.put o.dst v = a') (hr : wpQuiet P ops C Q rest a') : wpQuiet P ops C Q (o :: rest) a :=
  wpQuiet_step fun K hK => by
    rw [if_pos hw]
    exact ⟨v, h, by rw [ha]; exact hK _ hr⟩
theorem i64_wrap (z : Int) : IntKind.i64.wrap z = wrap64 z := by rw [IntKind.wrap_i64]; unfold wrap64; rfl
/-- One walk in the order of the text, in a class of worlds. -/
theorem region_cl {P : Program} {C : World → Prop} {id : Nat} {Q : Exit → Act → World → Prop} {a : Act} {w : World} {l : List Oper} (hm : P.follows .mixedOrders = true) (hB : Region.lexB .any l.toArray = true) (hC : C w.drew)
    (h : wpQuiet P l.toArray C (fun a' => ∀ w', C w' → Q .normal a' w') l a) : (Code.region id l.toArray true).wp P Q a w :=
  wp_region_quiet hm hB hC (by simpa using h)
section
variable {P : Program} {md : Region.Mode} {ops : Array Oper} {Q : Exit → Act → World → Prop} {S : World → Prop}
/-- One alone may come up, guarded or not. -/
theorem one_at_g (i : Nat) {o : Oper} {fuel : Nat} {listed : Array Bool} {a : Act} {w : World} (hr : Region.ready md ops listed = [i]) (ho : ops[i]? = some o) (hw : Region.wanted o (yielded ops a.tmps) = true)
    (h : o.wp P a w (fun a' w' => S w' ∧ wpAnyH P md ops Q S fuel (listed.setIfInBounds i true) a' w') Q) : wpAnyH P md ops Q S (fuel + 1) listed a w := by
  refine wpAnyH_all hr (by simp) fun j hj => ?_
  obtain rfl : j = i := by simpa using hj
  unfold wpOp
  simp only [ho, hw, if_true]
  exact .inl h
end
theorem run_load_row {P : Program} {o : Oper} {a : Act} {w : World} (ty : TypeId) (x : Operand) (ho : o.op = .load ty x) (g : Nat) (hx : a.eval x = .pointer (some ⟨g, 0, none⟩)) {t : TypeId} {cs : Array Value} {fr : Nat × Nat} {d : TypeDesc} (hg : w.heap[g]? = some (.cells cs t fr))
    (hu : P.underlying ty = some d) (hd : (match d with | .struct _ | .array _ _ => true | _ => false) = true) (hi : (P.info? ty).map (·.size) = some cs.size) : (execOp a.eval o).run P w = .ok (.value (.agg cs)) w := by
  unfold execOp
  simp only [ho, hx, Instr.loadAt, Instr.sureAddr, Sem.run_bind, Sem.run_pure, Result.andThen_ok, run_loadVar_row w g t ty cs fr d hg hu hd hi]
theorem quiet_row {P : Program} {C : World → Prop} {o : Oper} {a : Act} {w : World} (ty : TypeId) (x : Operand) (ho : o.op = .load ty x) (g : Nat) (hx : a.eval x = .pointer (some ⟨g, 0, none⟩)) {t : TypeId} {cs : Array Value} {fr : Nat × Nat} {d : TypeDesc} (hg : w.heap[g]? = some (.cells cs t fr))
    (hu : P.underlying ty = some d) (hd : (match d with | .struct _ | .array _ _ => true | _ => false) = true) (hi : (P.info? ty).map (·.size) = some cs.size) : o.quietAt P a C w (.agg cs) := by
  unfold Oper.quietAt
  rw [run_load_row ty x ho g hx hg hu hd hi]
  exact ⟨rfl, rfl⟩
theorem keep_cell {w w' : World} {p : Addr} {v : Value} (hg : w.grownBy w' none) (h : w.cell? p = some v) : w'.cell? p = some v := ((below_gr hg).cell (World.block_lt_of_cell? w _ h)).trans h
end Go.Proofs.YthofdmepofepgaaDoor
