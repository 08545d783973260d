/- The words ahead of a value. Conditions: the listed variables hold what the program's text lays. -/
import Derived.Test.YtnkfpiccfmdllaaDoorOutShow
import Derived.Test.YtnkfpiccfmdllaaDoorG04Joined
import Derived.Great.BuildSlice
namespace Go.Proofs.YtnkfpiccfmdllaaDoor
set_option linter.unusedVariables false
open Go.RowKit Go.Shelf

/-- One operation of a walk in a class of worlds: its value, in each of them. -/
theorem class_put {P : Program} {C : World → Prop} {Q : Act → Prop} {ops : Array Oper} {o : Oper} {rest : List Oper} {a a' : Act} (v : Value) (hw : Region.wanted o (yielded ops a.tmps) = true)
    (h : ∀ w, C w → o.quietAt P a C w v) (ha : a.put o.dst v = a') (hr : wpQuiet P ops C Q rest a') : wpQuiet P ops C Q (o :: rest) a :=
  wpQuiet_step fun K hK => by
    rw [if_pos hw]
    exact ⟨v, h, by rw [ha]; exact hK _ hr⟩
/-- The box of a result. -/
structure Box (w W : World) (q : Nat) (x : Rv) (va : Option Addr) (vc : Nat) : Prop where
  gr : w.grownBy W none
  lt : q < W.heap.size
  ge : w.heap.size ≤ q
  s : W.cell? ⟨q, 0, none⟩ = some (.int .i64 x.s)
  val : W.cell? ⟨q, 1, none⟩ = some (.slice va x.val.length vc)
  fl : W.cell? ⟨q, 2, none⟩ = some (.int .u32 x.fl)
  cas : W.cell? ⟨q, 3, none⟩ = some (.int .u64 x.cas)
  row : W.heap[q]? = some (.cells (rsC x va vc) 38 (0, 0))
theorem Box.on {w W W' : World} {q : Nat} {x : Rv} {va : Option Addr} {vc : Nat} (h : Box w W q x va vc) (hg : W.grownBy W' none) : Box w W' q x va vc := by
  have e := hg.block q h.lt (by simp)
  refine ⟨gr_trans h.gr hg, Nat.lt_of_lt_of_le h.lt hg.size, h.ge, ?_, ?_, ?_, ?_, e.trans h.row⟩
  all_goals rw [World.cell?_of_block (a := ⟨q, _, none⟩) e]
  · exact h.s
  · exact h.val
  · exact h.fl
  · exact h.cas
theorem Box.new (w : World) (x : Rv) (va : Option Addr) (vc : Nat) : Box w (w.alloc (.cells (rsC x va vc) 38)) w.heap.size x va vc :=
  ⟨World.grownBy_alloc _ _ _, by rw [World.size_alloc]; omega, Nat.le_refl _, World.cell?_alloc_new _ _ _ _, World.cell?_alloc_new _ _ _ _, World.cell?_alloc_new _ _ _ _, World.cell?_alloc_new _ _ _ _, World.alloc_heap_new w _⟩
theorem own_room {base n : Nat} {e : TypeId} (w : World) (cs : Array Value) (hn : cs.size = n) (hm : n ≤ maxLen) (hb : base ≤ w.heap.size) : (w.alloc (.cells cs e)).ownsRow base e 1 (.slice (some ⟨w.heap.size, 0, none⟩) n n) n cs.toList :=
  ⟨by rw [Array.length_toList, hn, Nat.mul_one], .inr ⟨w.heap.size, n, cs, rfl, hb, World.alloc_heap_new w _, Nat.le_refl _, hm, by rw [hn, Nat.mul_one], by rw [Nat.mul_one, ← hn, ← Array.length_toList, List.take_length]⟩⟩
/-- Words that are answered. -/
def Wds (w : World) (ws : List ByteArray) (e : Ending) (w' : World) : Prop := ∃ a c, e = .returned (.slice a ws.length c) ∧ Su w' a ws.length c ws ∧ w.grownBy w' none
theorem conv_u64 (x : Int) (h0 : 0 ≤ x) (h1 : x < 18446744073709551616) : IntKind.u64.wrap x = x := by
  simp only [IntKind.wrap, IntKind.signed, IntKind.bits, Bool.false_and, Bool.false_eq_true, if_false]
  omega
section
variable {w : World} {x : Rv} {k : ByteArray} {va : Option Addr} {vc : Nat} {b : Bool}
set_option maxRecDepth 100000 in
set_option maxHeartbeats 2000000 in
theorem head_any (hL : Laid w) (hx : x.ok) (hv : x.val.length ≤ 2000) : Calls Tryd.prog 16 #[.string k, .agg (rsC x va vc), .bool b] w fun e w' => Wds w (headW k x b) e w' := by
  obtain ⟨i0, hi, hz0, hz1, hz2⟩ := info_parts (show (Tryd.prog.info? 9).map (fun i => (i.zero, i.size, i.bytes)) = some (some (.string ⟨#[]⟩), 1, 16) by kernel_rfl)
  have B0 := Box.new w x va vc
  have HF := hide (fun W hW => show_any hx.f0 (by have := hx.f1; omega) W hW)
  have HV := hide (fun W hW => show_any (x := (x.val.length : Int)) (by omega) (by omega) W hW)
  have HC := hide (fun W hW => show_any hx.c0 hx.c1 W hW)
  have cf := conv_u64 x.fl hx.f0 (by have := hx.f1; omega)
  have cv := conv_u64 (x.val.length : Int) (by omega) (by omega)
  obtain ⟨W, hW⟩ : ∃ W, W = w.alloc (.cells (rsC x va vc) 38) := ⟨_, rfl⟩
  obtain ⟨q, hq⟩ : ∃ q, q = w.heap.size := ⟨_, rfl⟩
  rw [← hW, ← hq] at B0
  simp only [rsC] at hW ⊢
  go_enter Tryd.func16, Tryd.ntmps16
  go_wp2
  rw [← hW, ← hq]
  clear hW
  have BD : Box w W.drew q x va vc := B0.on (gr_of_below (Below.drew (Below.refl _ _)))
  have HQ := hide hq
  clear B0 hq
  refine region_ctail (C := fun W' => Box w W' q x va vc) 10 (by kernel_rfl) (by simp) (by kernel_rfl) BD ?_
  simp only [List.take_succ_cons, List.take_zero, List.drop_succ_cons, List.drop_zero]
  refine class_put (a' := ?fr0) (.string k) rfl (fun W hC => by unfold Oper.quietAt; go_simp) (by simp only [Act.put, List.setIfInBounds_toArray, List.set_cons_zero, List.set_cons_succ]; rfl) ?nx0
  refine class_put (a' := ?fr1) (.pointer (some ⟨q, 2, none⟩)) rfl (fun W hC => by unfold Oper.quietAt; go_simp) (by simp only [Act.put, List.setIfInBounds_toArray, List.set_cons_zero, List.set_cons_succ]; rfl) ?nx1
  refine class_put (a' := ?fr2) (.int .u32 x.fl) rfl (fun W hC => by have c := hC.fl; unfold Oper.quietAt; go_simp) (by simp only [Act.put, List.setIfInBounds_toArray, List.set_cons_zero, List.set_cons_succ]; rfl) ?nx2
  refine class_put (a' := ?fr3) (.int .u64 x.fl) rfl (fun W hC => by unfold Oper.quietAt; go_simp) (by simp only [Act.put, List.setIfInBounds_toArray, List.set_cons_zero, List.set_cons_succ]; rfl) ?nx3
  refine class_put (a' := ?fr4) (.string (mkS (showL x.fl))) rfl (fun W hC => by unfold Oper.quietAt; go_simp; exact (HF.out W (hL.up hC.gr)).mono fun e w' h => ⟨h.1, hC.on h.2⟩) (by simp only [Act.put, List.setIfInBounds_toArray, List.set_cons_zero, List.set_cons_succ]; rfl) ?nx4
  refine class_put (a' := ?fr5) (.pointer (some ⟨q, 1, none⟩)) rfl (fun W hC => by unfold Oper.quietAt; go_simp) (by simp only [Act.put, List.setIfInBounds_toArray, List.set_cons_zero, List.set_cons_succ]; rfl) ?nx5
  refine class_put (a' := ?fr6) (.slice va x.val.length vc) rfl (fun W hC => by have c := hC.val; unfold Oper.quietAt; go_simp) (by simp only [Act.put, List.setIfInBounds_toArray, List.set_cons_zero, List.set_cons_succ]; rfl) ?nx6
  refine class_put (a' := ?fr7) (.int .i64 (x.val.length : Int)) rfl (fun W hC => by unfold Oper.quietAt; go_simp) (by simp only [Act.put, List.setIfInBounds_toArray, List.set_cons_zero, List.set_cons_succ]; rfl) ?nx7
  refine class_put (a' := ?fr8) (.int .u64 (x.val.length : Int)) rfl (fun W hC => by unfold Oper.quietAt; go_simp) (by simp only [Act.put, List.setIfInBounds_toArray, List.set_cons_zero, List.set_cons_succ]; rfl) ?nx8
  refine class_put (a' := ?fr9) (.string (mkS (showL x.val.length))) rfl (fun W hC => by unfold Oper.quietAt; go_simp; exact (HV.out W (hL.up hC.gr)).mono fun e w' h => ⟨h.1, hC.on h.2⟩) (by simp only [Act.put, List.setIfInBounds_toArray, List.set_cons_zero, List.set_cons_succ]; rfl) ?nx9
  refine wpQuiet_nil ?_
  intro W2 B2
  have B2' := hide B2
  have cc := B2.cas
  obtain ⟨g, hg⟩ : ∃ g, g = W2.heap.size := ⟨_, rfl⟩
  obtain ⟨W3, hW3⟩ : ∃ W3, W3 = W2.alloc (.cells #[.string (mkS [86, 65, 76, 85, 69]), .string k, .string (mkS (showL x.fl)), .string (mkS (showL x.val.length))] 9) := ⟨_, rfl⟩
  have O3 := own_room (e := 9) (base := w.heap.size) W2 #[.string (mkS [86, 65, 76, 85, 69]), .string k, .string (mkS (showL x.fl)), .string (mkS (showL x.val.length))] (n := 4) rfl (by decide) B2.gr.size
  have g3 := World.grownBy_alloc W2 (.cells #[.string (mkS [86, 65, 76, 85, 69]), .string k, .string (mkS (showL x.fl)), .string (mkS (showL x.val.length))] 9) none
  rw [← hW3] at O3 g3
  rw [← hg] at O3
  have B3 := B2.on g3
  have G3 := hide B3.gr
  replace O3 := hide O3
  have HG : Hid (g = W2.heap.size) := hg
  have HW3 := hide hW3
  clear B2 cc
  refine wpList_buildSlice rfl 24 9 4 _ rfl #[.string (mkS [86, 65, 76, 85, 69]), .string k, .string (mkS (showL x.fl)), .string (mkS (showL x.val.length))] i0 (.string ⟨#[]⟩) Tryd.underlying24 hi hz0 (by rw [hz1]; decide) (by rw [hz1]; decide) (by rw [hz1]; kernel_rfl) ?_
  rw [← hW3, ← hg]
  clear hW3 hg g3 cf cv
  cases b with
  | false =>
    clear B3
    go_wp2
    go_ret
    obtain ⟨a, c, e, h⟩ := Su.own (xs := headW k x false) O3.out
    exact ⟨a, c, congrArg Ending.returned e, h, G3.out⟩
  | true =>
    have cc := B3.cas
    go_wp2_with (first
      | (go_at_call 17; refine (HC.out _ (hL.up G3.out)).mono ?_; rintro e w4 ⟨rfl, g4⟩; have O4 := hide (own_up O3.out g4); have G4 := hide (gr_trans G3.out g4))
      | (at_builtin; refine wpList_append_own _ rfl _ _ 24 rfl w.heap.size 9 i0 (.string ⟨#[]⟩) 1 16 Tryd.underlying24 hi hz0 hz1 hz2 rfl (by decide) (.slice (some ⟨g, 0, none⟩) 4 4) 4 [.string (mkS [86, 65, 76, 85, 69]), .string k, .string (mkS (showL x.fl)), .string (mkS (showL x.val.length))] rfl (O4.out.alloc _) ⟨w4.heap.size, 0, none⟩ 1 1 [.string (mkS (showL x.cas))] rfl rfl (cell_one_new _ _ _) (by simp [Value.oneCell']) (by decide) (by decide) (by have := G4.out.size; rw [World.size_alloc]; omega) ?_; intro v5 w5 o5 g5 t5; replace o5 := hide o5; replace g5 := hide g5))
    go_ret
    obtain ⟨a, c, e, h⟩ := Su.own (xs := headW k x true) o5.out
    have hgl : w.heap.size ≤ g := by rw [HG.out]; exact B2'.out.gr.size
    exact ⟨a, c, congrArg Ending.returned e, h, gr_new (gr_trans G4.out (World.grownBy_alloc _ _ none)) g5.out hgl⟩
end
end Go.Proofs.YtnkfpiccfmdllaaDoor
