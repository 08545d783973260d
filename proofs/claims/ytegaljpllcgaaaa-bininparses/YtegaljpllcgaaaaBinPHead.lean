/- Package binin's head of a request, and how many bytes the first request takes. Conditions: the bytes lie in memory. -/
import Derived.Test.YtegaljpllcgaaaaBinPGet
import Derived.Test.YtegaljpllcgaaaaG04Joined
import Derived.Test.YtegaljpllcgaaaaSetRow
import Derived.Deep.Cut
import Derived.Deep.OwnRows
namespace Go.Proofs.Ytegaljpllcgaaaa
set_option linter.unusedVariables false
open Go.RowKit Go.Shelf

/-- A part of bytes, with no room behind. -/
theorem Bu.part3 {w : World} {g off L c : Nat} {l : List UInt8} (h : Bu w (some ⟨g, off, none⟩) L c l) (i m : Nat) (hi : i + m ≤ L) : Bu w (some ⟨g, off + i, none⟩) m m ((l.drop i).take m) := by
  have hc := h.c
  have := (h.part i m hi).front (j := m) (c := m) (Nat.le_refl _) (Nat.le_refl _) (by omega)
  rwa [List.take_take, Nat.min_self] at this
/-- How many bytes the first request takes, if all of them are there. -/
def measN (b : List UInt8) : Int × Int :=
  if b.length = 0 then (0, 3) else if ((b.getD 0 0).toNat : Int) ≠ 128 then (0, 9) else if b.length < 24 then (0, 3)
  else if 2048 < getB b 8 4 then (0, 9) else if (b.length : Int) < 24 + getB b 8 4 then (0, 3) else (24 + getB b 8 4, 0)
section
variable {w : World} {a : Option Addr} {g off len cap : Nat} {b : List UInt8}
set_option maxRecDepth 100000 in
set_option maxHeartbeats 4000000 in
theorem meas_nil (a : Option Addr) (cap : Nat) (w : World) : Calls Try.prog 18 #[.slice a 0 cap] w fun e w' => e = .returned (.tuple #[.int .i64 0, .int .i64 3]) ∧ w' = w := by
  go_enter Try.func18, Try.ntmps18
  go_wp2
  go_ret2
  exact ⟨rfl, rfl⟩
set_option maxRecDepth 100000 in
set_option maxHeartbeats 4000000 in
theorem meas_any (h : Bu w a len cap b) (hl : len ≤ 100000) : Calls Try.prog 18 #[.slice a len cap] w fun e w' => e = .returned (.tuple #[.int .i64 (measN b).1, .int .i64 (measN b).2]) ∧ w' = w := by
  have hn := h.n
  by_cases e0 : len = 0
  · subst e0
    obtain rfl : b = [] := List.eq_nil_of_length_eq_zero hn
    exact meas_nil a cap w
  obtain ⟨g, off, rfl⟩ : ∃ g off, a = some ⟨g, off, none⟩ := by
    rcases h.b with ⟨h1, _, _⟩ | ⟨g, off, r⟩
    · omega
    · exact ⟨g, off, r.at_⟩
  have hc := h.c
  have c0 := first_byte h 0 (by omega)
  rw [Nat.add_zero] at c0
  have l0 : ((len : Int) == 0) = false := by rw [beq_eq_false_iff_ne]; omega
  have l1 : (0 : Int) < (len : Int) := by omega
  have eg : ((b.getD 0 0).toNat : Int) = ((b[0]'(by omega)).toNat : Int) := by rw [List.getD_eq_getElem?_getD, List.getElem?_eq_getElem (by omega)]; rfl
  unfold measN
  rw [if_neg (by omega), eg]
  by_cases e1 : ((b[0]'(by omega)).toNat : Int) = 128
  · rw [if_neg (by rw [e1]; decide)]
    rw [e1] at c0
    clear eg
    by_cases e2 : len < 24
    · rw [if_pos (show b.length < 24 by omega)]
      have l2 : (len : Int) < 24 := by omega
      clear e1 h hl hn hc e2 e0
      go_enter Try.func18, Try.ntmps18
      go_wp2
      go_ret2
      exact ⟨rfl, rfl⟩
    rw [if_neg (show ¬ b.length < 24 by omega)]
    have l2 : ¬ (len : Int) < 24 := by omega
    have c8 : (8 : Int) ≤ (cap : Int) := by omega
    have c12 : (12 : Int) ≤ (cap : Int) := by omega
    have n8 : ¬ cap = 8 := by omega
    have p := h.part3 8 4 (by omega)
    have H1 := hide (pget_any p (by decide) (by decide))
    have f4 := numB_four p.n
    have f0 := (numB_bd ((b.drop 8).take 4)).1
    unfold getB
    generalize numB ((b.drop 8).take 4) = y at *
    by_cases e3 : 2048 < y
    · rw [if_pos e3]
      clear e1 h hl hn hc e2 e0 p f4
      go_enter Try.func18, Try.ntmps18
      go_wp2_with (go_at_call 31; refine H1.out.mono ?_; rintro e w2 ⟨rfl, rfl⟩)
      go_ret2
      exact ⟨rfl, rfl⟩
    rw [if_neg e3]
    have s1 : wrap64 (24 + y) = 24 + y := by unfold wrap64; omega
    have s2 : IntKind.i64.wrap y = y := i64_id f0 f4
    by_cases e4 : (len : Int) < 24 + y
    · rw [if_pos (show (b.length : Int) < 24 + y by omega)]
      clear e1 h hl hn hc e2 e0 p f4
      go_enter Try.func18, Try.ntmps18
      go_wp2_with (go_at_call 31; refine H1.out.mono ?_; rintro e w2 ⟨rfl, rfl⟩)
      go_ret2
      exact ⟨rfl, rfl⟩
    rw [if_neg (show ¬ (b.length : Int) < 24 + y by omega)]
    clear e1 h hl hn hc e2 e0 p f4
    go_enter Try.func18, Try.ntmps18
    go_wp2_with (go_at_call 31; refine H1.out.mono ?_; rintro e w2 ⟨rfl, rfl⟩)
    go_ret2
    exact ⟨by first | rfl | (simp only [s1, s2]), rfl⟩
  · rw [if_pos e1]
    generalize ((b[0]'(by omega)).toNat : Int) = y at *
    have z : (y == 128) = false := by rw [beq_eq_false_iff_ne]; exact e1
    have zn : (y != 128) = true := by simpa using e1
    clear e1 h hl hn hc e0 eg
    go_enter Try.func18, Try.ntmps18
    go_wp2
    go_ret2
    exact ⟨rfl, rfl⟩
/-- A head as cells. -/
def hdC (c k x o s : Int) : Array Value := #[.int .u8 c, .int .i64 k, .int .i64 x, .int .u32 o, .int .u64 s]
theorem hd_size (c k x o s : Int) : (Try.prog.info? 54).map (·.size) = some (hdC c k x o s).size := by
  have h : (Try.prog.info? 54).map (·.size) = some 5 := by kernel_rfl
  exact h
theorem hd_one (c k x o s : Int) : (hdC c k x o s).all (·.oneCell') = true := by simp [hdC, Value.oneCell']
theorem class_putB {P : Program} {C : World → Prop} {Q : Act → Prop} {ops : Array Oper} {o : Oper} {rest : List Oper} {a a' : Act} (v : Value) (hw : Region.wanted o (yielded ops a.tmps) = true)
    (h : ∀ w, C w → o.quietAt P a C w v) (ha : a.put o.dst v = a') (hr : wpQuiet P ops C Q rest a') : wpQuiet P ops C Q (o :: rest) a :=
  wpQuiet_step fun K hK => by
    rw [if_pos hw]
    exact ⟨v, h, by rw [ha]; exact hK _ hr⟩
set_option maxRecDepth 100000 in
set_option maxHeartbeats 4000000 in
theorem rhead_any {c x : Int} (h : Bu w (some ⟨g, off, none⟩) 24 24 b) (h1 : ∀ W, w.grownBy W none → W.cell? ⟨g, off + 1, none⟩ = some (.int .u8 c)) (h4 : ∀ W, w.grownBy W none → W.cell? ⟨g, off + 4, none⟩ = some (.int .u8 x)) (x0 : 0 ≤ x) (x1 : x ≤ 255) :
    Calls Try.prog 19 #[.slice (some ⟨g, off, none⟩) 24 24] w fun e w' => e = .returned (.agg (hdC c (getB b 2 2) x (getB b 12 4) (getB b 16 8))) ∧ w.grownBy w' none := by
  have p2 := h.part3 2 2 (by decide)
  have p12 := h.part3 12 4 (by decide)
  have p16 := h.part3 16 8 (by decide)
  have H2' := hide (fun (W : World) (hg : w.grownBy W none) => pget_any (p2.on (below_gr hg)) (by decide) (by decide))
  have H12' := hide (fun (W : World) (hg : w.grownBy W none) => pget_any (p12.on (below_gr hg)) (by decide) (by decide))
  have H16' := hide (fun (W : World) (hg : w.grownBy W none) => pget_any (p16.on (below_gr hg)) (by decide) (by decide))
  have k0 := (numB_bd ((b.drop 2).take 2)).1
  have k1 := numB_two p2.n
  have o0 := (numB_bd ((b.drop 12).take 4)).1
  have o1 := numB_four p12.n
  unfold getB
  generalize numB ((b.drop 2).take 2) = k at *
  generalize numB ((b.drop 12).take 4) = o at *
  generalize numB ((b.drop 16).take 8) = s at *
  have e1 : IntKind.i64.wrap k = k := i64_id k0 (by omega)
  have e2 : IntKind.u32.wrap o = o := u32_id o0 o1
  have e3 : IntKind.i64.wrap x = x := i64_id x0 (by omega)
  obtain ⟨V, hV⟩ : ∃ V, V = w.alloc (.cells (hdC 0 0 0 0 0) 54) := ⟨_, rfl⟩
  obtain ⟨B, hB⟩ : ∃ B, B = w.heap.size := ⟨_, rfl⟩
  have gV : w.grownBy V none := by rw [hV]; exact World.grownBy_alloc _ _ _
  have rV : V.heap[B]? = some (.cells (hdC 0 0 0 0 0) 54 (0, 0)) := by rw [hV, hB]; exact World.alloc_heap_new w _
  have HBw : Hid (w.heap.size = B) := hB.symm
  have b1 := hide (fun (W : World) (hg : V.grownBy W none) => h1 W (gr_trans gV hg))
  have b4 := hide (fun (W : World) (hg : V.grownBy W none) => h4 W (gr_trans gV hg))
  have H2 := hide (fun (W : World) (hg : V.grownBy W none) => H2'.out W (gr_trans gV hg))
  have H12 := hide (fun (W : World) (hg : V.grownBy W none) => H12'.out W (gr_trans gV hg))
  have H16 := hide (fun (W : World) (hg : V.grownBy W none) => H16'.out W (gr_trans gV hg))
  replace gV := hide gV
  replace rV := hide rV
  simp only [hdC] at hV
  clear H2' H12' H16' p2 p12 p16 h h1 h4 k0 k1 o0 o1 x0 x1
  go_enter Try.func19, Try.ntmps19
  go_upto_region 1 with fail
  rw [← hV, ← hB]
  clear hV hB
  have S0 : V.grownBy V.drew none := gr_of_below (Below.drew (Below.refl _ _))
  refine region_ctail (C := fun W' => V.grownBy W' none) 18 (by kernel_rfl) (by simp) (by kernel_rfl) S0 ?_
  simp only [List.take_succ_cons, List.take_zero, List.drop_succ_cons, List.drop_zero]
  refine class_putB (a' := ?fr0) (.slice (some ⟨g, off, none⟩) 24 24) rfl (fun W hC => by unfold Oper.quietAt; go_simp) (by simp only [Act.put, List.setIfInBounds_toArray, List.set_cons_zero, List.set_cons_succ]; rfl) ?nx0
  refine class_putB (a' := ?fr1) (.pointer (some ⟨g, off + 1, none⟩)) rfl (fun W hC => by unfold Oper.quietAt; go_simp) (by simp only [Act.put, List.setIfInBounds_toArray, List.set_cons_zero, List.set_cons_succ]; rfl) ?nx1
  refine class_putB (a' := ?fr2) (.int .u8 c) rfl (fun W hC => by have cc := b1.out W hC; unfold Oper.quietAt; go_simp) (by simp only [Act.put, List.setIfInBounds_toArray, List.set_cons_zero, List.set_cons_succ]; rfl) ?nx2
  refine class_putB (a' := ?fr3) (.slice (some ⟨g, off, none⟩) 24 24) rfl (fun W hC => by unfold Oper.quietAt; go_simp) (by simp only [Act.put, List.setIfInBounds_toArray, List.set_cons_zero, List.set_cons_succ]; rfl) ?nx3
  refine class_putB (a' := ?fr4) (.slice (some ⟨g, off + 2, none⟩) 2 2) rfl (fun W hC => by unfold Oper.quietAt; go_simp) (by simp only [Act.put, List.setIfInBounds_toArray, List.set_cons_zero, List.set_cons_succ]; rfl) ?nx4
  refine class_putB (a' := ?fr5) (.int .u64 k) rfl (fun W hC => by unfold Oper.quietAt; go_simp; exact (H2.out W hC).mono fun e w2 h => ⟨h.1, by rw [h.2]; exact hC⟩) (by simp only [Act.put, List.setIfInBounds_toArray, List.set_cons_zero, List.set_cons_succ]; rfl) ?nx5
  refine class_putB (a' := ?fr6) (.int .i64 k) rfl (fun W hC => by unfold Oper.quietAt; go_simp) (by simp only [Act.put, List.setIfInBounds_toArray, List.set_cons_zero, List.set_cons_succ]; rfl) ?nx6
  refine class_putB (a' := ?fr7) (.slice (some ⟨g, off, none⟩) 24 24) rfl (fun W hC => by unfold Oper.quietAt; go_simp) (by simp only [Act.put, List.setIfInBounds_toArray, List.set_cons_zero, List.set_cons_succ]; rfl) ?nx7
  refine class_putB (a' := ?fr8) (.pointer (some ⟨g, off + 4, none⟩)) rfl (fun W hC => by unfold Oper.quietAt; go_simp) (by simp only [Act.put, List.setIfInBounds_toArray, List.set_cons_zero, List.set_cons_succ]; rfl) ?nx8
  refine class_putB (a' := ?fr9) (.int .u8 x) rfl (fun W hC => by have cc := b4.out W hC; unfold Oper.quietAt; go_simp) (by simp only [Act.put, List.setIfInBounds_toArray, List.set_cons_zero, List.set_cons_succ]; rfl) ?nx9
  refine class_putB (a' := ?fr10) (.int .i64 x) rfl (fun W hC => by unfold Oper.quietAt; go_simp) (by simp only [Act.put, List.setIfInBounds_toArray, List.set_cons_zero, List.set_cons_succ]; rfl) ?nx10
  refine class_putB (a' := ?fr11) (.slice (some ⟨g, off, none⟩) 24 24) rfl (fun W hC => by unfold Oper.quietAt; go_simp) (by simp only [Act.put, List.setIfInBounds_toArray, List.set_cons_zero, List.set_cons_succ]; rfl) ?nx11
  refine class_putB (a' := ?fr12) (.slice (some ⟨g, off + 12, none⟩) 4 4) rfl (fun W hC => by unfold Oper.quietAt; go_simp) (by simp only [Act.put, List.setIfInBounds_toArray, List.set_cons_zero, List.set_cons_succ]; rfl) ?nx12
  refine class_putB (a' := ?fr13) (.int .u64 o) rfl (fun W hC => by unfold Oper.quietAt; go_simp; exact (H12.out W hC).mono fun e w2 h => ⟨h.1, by rw [h.2]; exact hC⟩) (by simp only [Act.put, List.setIfInBounds_toArray, List.set_cons_zero, List.set_cons_succ]; rfl) ?nx13
  refine class_putB (a' := ?fr14) (.int .u32 o) rfl (fun W hC => by unfold Oper.quietAt; go_simp) (by simp only [Act.put, List.setIfInBounds_toArray, List.set_cons_zero, List.set_cons_succ]; rfl) ?nx14
  refine class_putB (a' := ?fr15) (.slice (some ⟨g, off, none⟩) 24 24) rfl (fun W hC => by unfold Oper.quietAt; go_simp) (by simp only [Act.put, List.setIfInBounds_toArray, List.set_cons_zero, List.set_cons_succ]; rfl) ?nx15
  refine class_putB (a' := ?fr16) (.slice (some ⟨g, off + 16, none⟩) 8 8) rfl (fun W hC => by unfold Oper.quietAt; go_simp) (by simp only [Act.put, List.setIfInBounds_toArray, List.set_cons_zero, List.set_cons_succ]; rfl) ?nx16
  refine class_putB (a' := ?fr17) (.int .u64 s) rfl (fun W hC => by unfold Oper.quietAt; go_simp; exact (H16.out W hC).mono fun e w2 h => ⟨h.1, by rw [h.2]; exact hC⟩) (by simp only [Act.put, List.setIfInBounds_toArray, List.set_cons_zero, List.set_cons_succ]; rfl) ?nx17
  refine wpQuiet_nil ?_
  intro W2 C2
  have rW := hide ((C2.block B (Array.getElem?_eq_some_iff.1 rV.out).1 (by simp)).trans rV.out)
  have GE : Hid (w.grownBy (W2.setRow B (hdC c k x o s)) none) := gr_new (row := none) (gr_trans gV.out C2) (⟨rfl, rfl, rfl, by simp, fun i _ hi => setRow_other _ B i _ (fun e => hi (by rw [e]))⟩ : _ ) (Nat.le_of_eq HBw.out)
  clear b1 b4 H2 H12 H16
  go_wp2_with (refine wpList_store_row rfl 54 _ _ rfl B (hdC c k x o s) rfl rfl _ _ rW.out (hd_size _ _ _ _ _) rfl (hd_one _ _ _ _ _) ?_)
  refine bodyPost_ret (results_cell_row rfl _ _ B 54 (hdC c k x o s) (0, 0) _ rfl ?_ Try.underlying54 rfl (hd_size _ _ _ _ _)) rfl ?_
  · exact setRow_heap _ B _ _ _ _ rW.out
  · exact ⟨rfl, GE.out⟩
end
end Go.Proofs.Ytegaljpllcgaaaa
