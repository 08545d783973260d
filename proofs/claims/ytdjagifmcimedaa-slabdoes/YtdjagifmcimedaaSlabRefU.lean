/- What the document's own slab does: New, Fits, Take. Conditions: at most 9000 chunks in each list. -/
import Derived.Test.YtdjagifmcimedaaSlabRefT
namespace Go.Proofs.Ytdjagifmcimedaa
open Go.RowKit

section
variable {n0 h gm : Nat} {w w1 : World} {st : Sb} {vi vg v' : Value} {tmp : Obj}
/-- One more in use. -/
theorem RSl.appInn (R : RSl n0 w h st vi vg gm) (x y : Int) (hown : w1.ownsRow n0 35 2 v' (st.inn.length + 1) (cksV st.inn ++ [.int .i64 x, .int .i64 y])) (hgrow : (w.alloc tmp).grownBy w1 vi.ownBlock) (hat : v'.ownBlock = vi.ownBlock ∨ v'.ownBlock = some (w.alloc tmp).heap.size) :
    w1.cell? ⟨h, 1, none⟩ = some vi ∧ w1.frozen? ⟨h, 1, none⟩ = false ∧ RSl n0 (w1.setCell ⟨h, 1, none⟩ v') h ⟨st.bud, st.inn ++ [(x, y)], st.gone, st.made⟩ v' vg gm ∧ Gr (ROwn h gm vi vg) w (w1.setCell ⟨h, 1, none⟩ v') ∧ (∀ k, ROwn h gm v' vg k → ROwn h gm vi vg k ∨ w.heap.size ≤ k) := by
  have hsa : (w.alloc tmp).heap.size = w.heap.size + 1 := World.size_alloc _ _
  have old : ∀ k, k < w.heap.size → vi.ownBlock ≠ some k → w1.heap[k]? = w.heap[k]? := fun k hk hv => (hgrow.block k (by omega) (fun e => hv e.symm)).trans (Below.heap_alloc _ _ _ hk)
  have lh := R.lt h (.inl rfl)
  have lm := R.lt gm (.inr (.inl rfl))
  have hhead := (old h lh R.ih).trans R.head
  have hmade := (old gm lm R.im).trans R.made
  have hinn : w1.ownsRow n0 35 2 vg st.gone.length (cksV st.gone) := own_same R.gone fun k hk => old k (R.lt k (.inr (.inr (.inr hk)))) (fun e => R.ig k e hk)
  have hv : ∀ k, v'.ownBlock = some k → vi.ownBlock = some k ∨ w.heap.size ≤ k := fun k hk => by
    rcases hat with e | e
    · exact .inl (by rw [← e]; exact hk)
    · rw [e] at hk
      cases hk
      exact .inr (by omega)
  have hne : ∀ k, v'.ownBlock = some k → ¬ (k = h ∨ k = gm ∨ vg.ownBlock = some k) := fun k hk => by
    rcases hv k hk with e | e
    · rintro (rfl | rfl | e2)
      · exact R.ih e
      · exact R.im e
      · exact R.ig k e e2
    · rintro (rfl | rfl | e2)
      · omega
      · omega
      · have := R.lt k (.inr (.inr (.inr e2)))
        omega
  have hvh : v'.ownBlock ≠ some h := fun e => hne h e (.inl rfl)
  have hown2 : w1.ownsRow n0 35 2 v' (st.inn ++ [(x, y)]).length (cksV (st.inn ++ [(x, y)])) := by
    rw [List.length_append, cksV_app]
    exact hown
  refine ⟨by simp [World.cell?, hhead], by simp [World.frozen?, hhead], ?_, ?_, ?_⟩
  · exact { head := (head_set hhead v').1, inn := row_set hown2 hvh, gone := row_set hinn R.gh, made := (heap_setCell_other _ _ _ _ (fun e => R.hm e.symm)).trans hmade, len := R.len, ih := hvh, im := fun e => hne gm e (.inr (.inl rfl)), gh := R.gh, gg := R.gg, ig := fun k hk hg => hne k hk (.inr (.inr hg)), hm := R.hm, h0 := R.h0, m0 := R.m0 }
  · refine ⟨hgrow.1, hgrow.2, hgrow.3, ?_, fun k hk hr => ?_⟩
    · have := hgrow.4
      rw [World.size_setCell]
      omega
    · rw [heap_setCell_other _ _ _ _ (fun e => hr (.inl e))]
      exact old k hk (fun e => hr (.inr (.inr (.inl e))))
  · rintro k (e | e | e | e)
    · exact .inl (.inl e)
    · exact .inl (.inr (.inl e))
    · exact (hv k e).elim (fun e => .inl (.inr (.inr (.inl e)))) .inr
    · exact .inl (.inr (.inr (.inr e)))
theorem madeV_set (l : List Nat) (k y : Nat) : (madeV l).setIfInBounds k (.int .i64 (y : Int)) = madeV (l.set k y) := by
  unfold madeV
  rw [List.setIfInBounds_toArray, List.map_set]
theorem RSl.madeAt (R : RSl n0 w h st vi vg gm) (k : Nat) (hk : k < 6) : w.cell? ⟨gm, k, none⟩ = some (.int .i64 ((st.made.getD k 0 : Nat) : Int)) ∧ w.frozen? ⟨gm, k, none⟩ = false := by
  have hl := R.len
  refine ⟨?_, frozen_of_row w gm k _ _ R.made⟩
  rw [cell_of_row w gm k _ _ _ R.made]
  simp [madeV, List.getD, List.getElem?_eq_getElem (show k < st.made.length by omega)]
theorem RSl.setMade (R : RSl n0 w h st vi vg gm) (k y : Nat) : RSl n0 (w.setCell ⟨gm, k, none⟩ (.int .i64 (y : Int))) h ⟨st.bud, st.inn, st.gone, st.made.set k y⟩ vi vg gm :=
  { R with
    head := (heap_setCell_other _ _ _ _ R.hm).trans R.head
    inn := row_set R.inn R.im
    gone := row_set R.gone R.gg
    made := by rw [heap_setCell_same w gm k _ _ _ R.made, madeV_set]
    len := by rw [List.length_set]; exact R.len }
end
theorem next_none {st : Sb} {k : Nat} (h : ∀ c ∈ st.gone, c.1 ≠ (k : Int)) : nextS st k = ((k : Int), ((st.made.getD k 0 : Nat) : Int)) ∧ ¬ nextS st k ∈ st.gone := by
  rcases next_cases st k with ⟨h1, h2⟩ | ⟨_, h2⟩
  · exact (h _ h1 h2).elim
  · exact ⟨h2, fun hm => h _ hm (next_cls st k)⟩
theorem next_last {st : Sb} {k m : Nat} (hm : m < st.gone.length) (h1 : st.gone[m].1 = (k : Int)) (h2 : ∀ (i : Nat) (hi : i < st.gone.length), m < i → st.gone[i].1 ≠ (k : Int)) : nextS st k = st.gone[m] := by
  have e : st.gone = st.gone.take m ++ [st.gone[m]] ++ st.gone.drop (m + 1) := by
    rw [List.append_assoc, List.singleton_append, ← List.drop_eq_getElem_cons hm, List.take_append_drop]
  have hd : (st.gone.drop (m + 1)).filter (fun c => decide (c.1 = (k : Int))) = [] := by
    rw [List.filter_eq_nil_iff]
    intro c hc
    obtain ⟨i, hi, rfl⟩ := List.mem_iff_getElem.1 hc
    rw [List.getElem_drop]
    have hl : m + 1 + i < st.gone.length := by rw [List.length_drop] at hi; omega
    simpa using h2 (m + 1 + i) hl (by omega)
  unfold nextS
  have hf : st.gone.filter (fun c => decide (c.1 = (k : Int))) = (st.gone.take m).filter (fun c => decide (c.1 = (k : Int))) ++ [st.gone[m]] := by
    conv => lhs; rw [e]
    rw [List.filter_append, List.filter_append, hd, List.append_nil]
    have : [st.gone[m]].filter (fun c => decide (c.1 = (k : Int))) = [st.gone[m]] := by simp [h1]
    rw [this]
  rw [hf]
  simp
theorem make_row6 (w : World) : (Instr.makeSlice 47 (.int .i64 6) (.int .i64 6)).run Try.prog w = .ok (.slice (some ⟨w.heap.size, 0, none⟩) 6 6) (w.alloc (.cells (madeV [0, 0, 0, 0, 0, 0]) 3)) := by kernel_rfl
set_option maxHeartbeats 1000000 in
theorem rnew07_any (bud : Int) (n0 : Nat) (w : World) (hn : n0 ≤ w.heap.size) : Calls Try.prog 14 #[.int .i64 bud] w fun e w' => ∃ h gm, e = .returned (.pointer (some ⟨h, 0, none⟩)) ∧ RSl n0 w' h (freshS bud) (.slice none 0 0) (.slice none 0 0) gm ∧ (∀ k, ROwn h gm (.slice none 0 0) (.slice none 0 0) k → w.heap.size ≤ k) ∧ w.grownBy w' none := by
  have hmk := make_row6
  generalize hR : madeV [0, 0, 0, 0, 0, 0] = M at *
  have HR := hide hR
  clear hR
  go_enter Try.func14, Try.ntmps14
  go_wp2
  go_ret
  refine ⟨w.heap.size + 1, w.heap.size, rfl, ?_, ?_, gr_trans (World.grownBy_alloc _ _ _) (World.grownBy_alloc _ _ _)⟩
  · exact { head := heap_alloc2_new w _ _, inn := World.ownsRow_nil _ _ _ _, gone := World.ownsRow_nil _ _ _ _, made := by rw [show (freshS bud).made = [0, 0, 0, 0, 0, 0] from rfl, HR.out]; exact heap_alloc2_old w _ _, len := rfl, ih := by simp [Value.ownBlock], im := by simp [Value.ownBlock], gh := by simp [Value.ownBlock], gg := by simp [Value.ownBlock], ig := fun k hk => by simp [Value.ownBlock] at hk, hm := by omega, h0 := by omega, m0 := hn }
  · rintro k (rfl | rfl | e | e)
    · omega
    · omega
    · simp [Value.ownBlock] at e
    · simp [Value.ownBlock] at e
set_option maxHeartbeats 2000000 in
theorem rfits_any {n0 h gm : Nat} {w : World} {st : Sb} {vi vg : Value} (R : RSl n0 w h st vi vg gm) (hs : Small st 9000) (hbud : I64 st.bud) (size less : Int) (hl : I64 less) : Calls Try.prog 22 #[.pointer (some ⟨h, 0, none⟩), .int .i64 size, .int .i64 less] w fun e w' => e = .returned (.bool (fitsS st size less)) ∧ ∃ d, w' = w.drewN d := by
  have hub := used_bound hs
  have hbl := bytes_le (clsOf size)
  have hbn := bytes_nonneg (clsOf size)
  have hbc := R.budC
  have HU := hide (rused_any R (small_mono hs (by decide)))
  have HF : Hid (fitsS st size less = decide (size ≤ 2048 ∧ 0 ≤ less ∧ less ≤ usedS st ∧ usedS st - less + bytesC (clsOf size) ≤ st.bud)) := rfl
  have HE : Hid (clsErr size = if size ≤ 2048 then 0 else 4) := rfl
  obtain ⟨c, hc⟩ : ∃ c, clsOf size = c := ⟨_, rfl⟩
  obtain ⟨er, her⟩ : ∃ e, clsErr size = e := ⟨_, rfl⟩
  rw [hc] at HF hbl hbn
  obtain ⟨n, hn⟩ : ∃ n, usedS st = n := ⟨_, rfl⟩
  obtain ⟨m, hm⟩ : ∃ m, bytesC (c : Int) = m := ⟨_, rfl⟩
  rw [hn] at HU HF hub
  rw [hm] at HF hbl hbn
  rw [her] at HE
  have HC := hide hc
  have HR := hide her
  have HM := hide hm
  clear hc her hm hn
  obtain ⟨hb1, hb2⟩ := hbud
  obtain ⟨hl1, hl2⟩ := hl
  by_cases h1 : size ≤ 2048
  · have he := HE.out
    rw [if_pos h1] at he
    subst he
    clear HE
    by_cases h2 : 0 ≤ less
    · by_cases h3 : less ≤ n
      · have HQ : Hid (fitsS st size less = decide (n - less + m ≤ st.bud)) := by
          show fitsS st size less = _
          rw [HF.out]
          exact decide_eq_decide.2 ⟨fun x => x.2.2.2, fun x => ⟨h1, h2, h3, x⟩⟩
        clear HF h1
        go_enter Try.func22, Try.ntmps22
        go_wp2_with (first
          | (go_at_call 10; refine (rclass_any size _).mono ?_; rintro e w1 ⟨he, rfl⟩; rw [HC.out, HR.out] at he; subst he)
          | (go_at_call 24; refine HU.out.mono ?_; rintro e w2 ⟨rfl, rfl⟩))
        go_quiet ((go_at_call 12; refine Calls.quiet_of_same ((rbytes_any (c : Int) _).mono fun e w' h => ⟨by rw [h.1, HM.out], h.2.symm⟩)))
        go_wp2
        go_ret
        exact ⟨by rw [HQ.out]; rfl, nq, rfl⟩
      · have HQ : Hid (fitsS st size less = false) := by
          show fitsS st size less = _
          rw [HF.out]
          exact decide_eq_false fun x => h3 x.2.2.1
        have h3n : decide (less ≤ n) = false := decide_eq_false h3
        clear HF h1 h3
        go_enter Try.func22, Try.ntmps22
        go_wp2_with (first
          | (go_at_call 10; refine (rclass_any size _).mono ?_; rintro e w1 ⟨he, rfl⟩; rw [HC.out, HR.out] at he; subst he)
          | (go_at_call 24; refine HU.out.mono ?_; rintro e w2 ⟨rfl, rfl⟩))
        go_quiet ((go_at_call 12; refine Calls.quiet_of_same ((rbytes_any (c : Int) _).mono fun e w' h => ⟨by rw [h.1, HM.out], h.2.symm⟩)))
        go_wp2
        go_ret
        exact ⟨by rw [HQ.out]; rfl, nq, rfl⟩
    · have HQ : Hid (fitsS st size less = false) := by
        show fitsS st size less = _
        rw [HF.out]
        exact decide_eq_false fun x => h2 x.2.1
      have h2n : decide (0 ≤ less) = false := decide_eq_false h2
      clear HF h1 h2
      go_enter Try.func22, Try.ntmps22
      go_wp2_with (first
        | (go_at_call 10; refine (rclass_any size _).mono ?_; rintro e w1 ⟨he, rfl⟩; rw [HC.out, HR.out] at he; subst he)
        | (go_at_call 24; refine HU.out.mono ?_; rintro e w2 ⟨rfl, rfl⟩))
      go_quiet ((go_at_call 12; refine Calls.quiet_of_same ((rbytes_any (c : Int) _).mono fun e w' h => ⟨by rw [h.1, HM.out], h.2.symm⟩)))
      go_wp2
      go_ret
      exact ⟨by rw [HQ.out]; rfl, nq, rfl⟩
  · have he := HE.out
    rw [if_neg h1] at he
    subst he
    have HQ : Hid (fitsS st size less = false) := by
      show fitsS st size less = _
      rw [HF.out]
      exact decide_eq_false fun x => h1 x.1
    clear HF HE h1
    go_enter Try.func22, Try.ntmps22
    go_wp2_with (first
      | (go_at_call 10; refine (rclass_any size _).mono ?_; rintro e w1 ⟨he, rfl⟩; rw [HC.out, HR.out] at he; subst he)
      | (go_at_call 24; refine HU.out.mono ?_; rintro e w2 ⟨rfl, rfl⟩))
    go_quiet ((go_at_call 12; refine Calls.quiet_of_same ((rbytes_any (c : Int) _).mono fun e w' h => ⟨by rw [h.1, HM.out], h.2.symm⟩)))
    go_wp2
    go_ret
    exact ⟨by rw [HQ.out]; rfl, nq, rfl⟩
end Go.Proofs.Ytdjagifmcimedaa
