/- All and Victim of package slru, and all its contracts. Conditions: none. -/
import Derived.Test.YtedfhikmlicbgaaSlruSeq
import Derived.Laws.MakeOwn
namespace Go.Proofs.Ytedfhikmlicbgaa
open Go.RowKit Go.Maps Go.Shelf

theorem Ls0.lt {w : World} {b : Nat} {own : Nat → Prop} {st : Sr} (h : Ls0 w b own st) : ∀ k, own k → k < w.heap.size := by
  obtain ⟨_, _, _, _, _, _, _, h3, _⟩ := h
  exact h3
theorem Ls0.keep {w w' : World} {b : Nat} {own : Nat → Prop} {st : Sr} (h : Ls0 w b own st) (hs : SameOn own w w') : Ls0 w' b own st := by
  obtain ⟨bm, D, nd, tn, sn, rfl, h2, h3, h4⟩ := h
  refine ⟨bm, D, nd, tn, sn, rfl, (lsPart (max st.most 0) b bm D nd tn sn).on w w' h2 hs, fun k hk => ?_, h4⟩
  have h5 := h3 k hk
  have h6 := hs k hk
  rw [Array.getElem?_eq_getElem h5] at h6
  exact (Array.getElem?_eq_some_iff.1 h6).1
theorem Ls0.grown {w w' : World} {b : Nat} {own : Nat → Prop} {st : Sr} (h : Ls0 w b own st) (hg : w.grownBy w' none) : Ls0 w' b own st := h.keep fun k hk => hg.block k (h.lt k hk) (by simp)
/-- Behind a call that lays a box. -/
structure Laid1 (V w1 : World) (o : Obj) : Prop where
  grown : V.grownBy w1 none
  size : w1.heap.size = V.heap.size + 1
  box : w1.heap[V.heap.size]? = some o
theorem laid1 (V : World) (o : Obj) : Laid1 V (V.alloc o) o := ⟨World.grownBy_alloc _ _ _, World.size_alloc _ _, World.alloc_heap_new V o⟩
set_option maxHeartbeats 1000000 in
theorem keysMk (b : Nat) (w : World) : Calls Try.prog 31 #[.pointer (some ⟨b, 0, none⟩)] w fun e w' => e = .returned (.func (.func 33) #[] #[.pointer (some ⟨w.heap.size, 0, none⟩)]) ∧ Laid1 w w' (.cells #[.pointer (some ⟨b, 0, none⟩)] 25) := by
  have hL := laid1 w (.cells #[.pointer (some ⟨b, 0, none⟩)] 25)
  go_enter Try.func31, Try.ntmps31
  go_wp2
  go_ret
  exact ⟨rfl, hL⟩
set_option maxHeartbeats 1000000 in
theorem valuesMk (v : Value) (a : Option Addr) (n c : Nat) (hv : v = .slice a n c) (w : World) : Calls Try.prog 35 #[v] w fun e w' => e = .returned (.func (.func 36) #[] #[.pointer (some ⟨w.heap.size, 0, none⟩)]) ∧ Laid1 w w' (.cells #[v] 28) := by
  subst hv
  have hL := laid1 w (.cells #[.slice a n c] 28)
  go_enter Try.func35, Try.ntmps35
  go_wp2
  go_ret
  exact ⟨rfl, hL⟩
theorem keys_at {w V : World} {b bo : Nat} {own : Nat → Prop} {st : Sr} (h : Ls0 w b own st) (hV : w.grownBy V none) (hbo : V.heap[bo]? = some (.cells #[.pointer (some ⟨b, 0, none⟩)] 25)) (n : Nat) (hn : 1 ≤ n) :
    SeqSep Fence.wide n Try.prog 33 #[.pointer (some ⟨bo, 0, none⟩)] keyEnc (fun k => own k ∨ k = bo) (fun ys => ys = allR st) (fun pre => pre <+: allR st) (allR st).length V := by
  obtain ⟨bm, D, nd, tn, sn, rfl, h2, h3, h4⟩ := h.grown hV
  rw [h4.all]
  have := keys_seq n hn h2 h3 hbo h4.lk
  have e : (keysN (tn ++ sn)).length = tn.length + sn.length := by simp [keysN]
  rw [e]
  exact this
theorem app_mid {w V : World} {b bo : Nat} {own : Nat → Prop} {st : Sr} {v : Value} (h : Ls0 w b own st) (hn : (allR st).length ≤ 1000) (hV : w.grownBy V none) (hbo : V.heap[bo]? = some (.cells #[.pointer (some ⟨b, 0, none⟩)] 25)) (hbn : w.heap.size ≤ bo) (hv : V.ownsRow w.heap.size 9 1 v 0 []) (hne : v.ownBlock ≠ some bo) :
    Calls Try.prog 34 #[v, .func (.func 33) #[] #[.pointer (some ⟨bo, 0, none⟩)]] V fun e w' => ∃ v', e = .returned v' ∧ w.grownBy w' none ∧ w'.ownsRow w.heap.size 9 1 v' (allR st).length (strV (allR st)) := by
  have H : Law w V ((boxP bo (.cells #[.pointer (some ⟨b, 0, none⟩)] 25)).and ((rowP w.heap.size 9 1 v 0 []).and Part.emp)) := by
    refine ⟨below_gr hV, ⟨hbo, ⟨hv, trivial, fun _ _ h => h⟩, ?_⟩, ?_⟩
    · rintro k hk (hr | he)
      · exact hne (by rw [← show k = bo from hk]; exact hr)
      · exact he
    · rintro k (hk | hk | hk)
      · rw [show k = bo from hk]
        exact ⟨hbn, (Array.getElem?_eq_some_iff.1 hbo).1⟩
      · exact ⟨(own_at hv hk).1, (own_at hv hk).2.1⟩
      · exact hk.elim
  exact (append_seq h.lt hn H (fun args u => by kernel_rfl) (keys_at h hV hbo)).mono fun e w' ⟨v', he, H'⟩ => ⟨v', he, gr_of_below H'.below, H'.q.1⟩
def AppEnd (w : World) (st : Sr) (e : Ending) (w' : World) : Prop := ∃ v', e = .returned v' ∧ w.grownBy w' none ∧ w'.ownsRow w.heap.size 9 1 v' (allR st).length (strV (allR st))
theorem drew_grown (w : World) : w.grownBy w.drew none := ⟨rfl, rfl, rfl, Nat.le_refl _, fun _ _ _ => rfl⟩
theorem mid_a {w w2 : World} {b c : Nat} {own : Nat → Prop} {st : Sr} {CC : Array Value} (h : Ls0 w b own st) (hn : (allR st).length ≤ 1000) (hc : c ≤ 1000) (hCC : CC.size = c) (hk : Laid1 (w.alloc (.cells CC 9)).drew w2 (.cells #[.pointer (some ⟨b, 0, none⟩)] 25)) :
    Calls Try.prog 34 #[.slice (some ⟨w.heap.size, 0, none⟩) 0 c, .func (.func 33) #[] #[.pointer (some ⟨w.heap.size + 1, 0, none⟩)]] w2 (AppEnd w st) := by
  have hr : (w.alloc (.cells CC 9)).ownsRow w.heap.size 9 1 (.slice (some ⟨w.heap.size, 0, none⟩) 0 c) 0 [] := World.ownsRow_made w CC c (Nat.le_refl _) (by unfold maxLen; omega) (by rw [hCC, Nat.mul_one])
  have hg : w.grownBy w2 none := gr_trans (gr_trans (World.grownBy_alloc w _ none) (drew_grown _)) hk.grown
  have hb := hk.box
  have e : (w.alloc (.cells CC 9)).drew.heap.size = w.heap.size + 1 := World.size_alloc _ _
  rw [e] at hb
  exact app_mid h hn hg hb (Nat.le_succ _) (hr.kept (gr_trans (drew_grown _) hk.grown) (.inr (by simp [Value.ownBlock]))) (by simp [Value.ownBlock])
theorem mid_b {w w2 : World} {b c : Nat} {own : Nat → Prop} {st : Sr} {CC : Array Value} (h : Ls0 w b own st) (hn : (allR st).length ≤ 1000) (hc : c ≤ 1000) (hCC : CC.size = c) (hk : Laid1 w.drew w2 (.cells #[.pointer (some ⟨b, 0, none⟩)] 25)) :
    Calls Try.prog 34 #[.slice (some ⟨w2.heap.size, 0, none⟩) 0 c, .func (.func 33) #[] #[.pointer (some ⟨w.heap.size, 0, none⟩)]] (w2.alloc (.cells CC 9)) (AppEnd w st) := by
  have hg : w.grownBy w2 none := gr_trans (drew_grown _) hk.grown
  have hr : (w2.alloc (.cells CC 9)).ownsRow w.heap.size 9 1 (.slice (some ⟨w2.heap.size, 0, none⟩) 0 c) 0 [] := World.ownsRow_made w2 CC c hg.size (by unfold maxLen; omega) (by rw [hCC, Nat.mul_one])
  have hsz : w2.heap.size = w.heap.size + 1 := hk.size
  have hb : w2.heap[w.heap.size]? = _ := hk.box
  refine app_mid h hn (gr_trans hg (World.grownBy_alloc _ _ none)) ((Below.heap_alloc _ _ _ (by omega)).trans hb) (Nat.le_refl _) hr ?_
  simp [Value.ownBlock]
  omega
def AllEnd (w : World) (b : Nat) (own : Nat → Prop) (st : Sr) (e : Ending) (w' : World) : Prop := ∃ g lb own2, e = .returned (.func (.func g) #[] lb) ∧ Ls0 w' b own st ∧ w.grownBy w' none ∧ (∀ k, own k → own2 k) ∧ (∀ k, own2 k → own k ∨ (w.heap.size ≤ k ∧ k < w'.heap.size)) ∧
      (∀ args v, (callFunc g args).run Try.prog v = .ok (.enter g args) v) ∧ ∀ n, 5 ≤ n → SeqSep Fence.wide n Try.prog g lb keyEnc own2 (fun xs => xs = allR st) (fun pre => pre <+: allR st) (allR st).length w'
theorem all_fin {w w5 w6 : World} {b : Nat} {own : Nat → Prop} {st : Sr} {v : Value} (h : Ls0 w b own st) (hn : (allR st).length ≤ 1000) (hg : w.grownBy w5 none) (hr : w5.ownsRow w.heap.size 9 1 v (allR st).length (strV (allR st))) (hk : Laid1 w5 w6 (.cells #[v] 28)) :
    AllEnd w b own st (.returned (.func (.func 36) #[] #[.pointer (some ⟨w5.heap.size, 0, none⟩)])) w6 := by
  have hg6 := gr_trans hg hk.grown
  have hr6 : w6.ownsRow w.heap.size 9 1 v (allR st).length (strV (allR st)) := own_same hr fun k hk' => hk.grown.block k (own_at hr hk').2.1 (by simp)
  refine ⟨_, _, fun k => own k ∨ (k = w5.heap.size ∨ v.ownBlock = some k), rfl, h.grown hg6, hg6, fun k hk => .inl hk, ?_, fun args u => by kernel_rfl, fun n hn5 => (values_seq n (by omega) hn hk.box hr6).wider fun k hk => .inr hk⟩
  rintro k (h1 | h1 | h1)
  · exact .inl h1
  · rw [h1]
    exact .inr ⟨hg.size, by rw [hk.size]; exact Nat.lt_succ_self _⟩
  · exact .inr ⟨(own_at hr6 h1).1, (own_at hr6 h1).2.1⟩
set_option maxRecDepth 100000 in
set_option maxHeartbeats 1000000 in
theorem allR_any {w : World} {b : Nat} {own : Nat → Prop} {st : Sr} (h : Ls0 w b own st) (hn : (allR st).length ≤ 1000) :
    Calls Try.prog 32 #[.pointer (some ⟨b, 0, none⟩)] w (AllEnd w b own st) := by
  obtain ⟨i0, hi, hz0, hz1, hz2⟩ := info_parts info_str
  obtain ⟨c, hc⟩ : ∃ c, (allR st).length = c := ⟨_, rfl⟩
  have hmk : ∃ CC : Array Value, CC.size = c ∧ ∀ u : World, (Instr.makeSlice 28 (.int .i64 0) (.int .i64 (c : Int))).run Try.prog u = .ok (.slice (some ⟨u.heap.size, 0, none⟩) 0 c) (u.alloc (.cells CC 9)) := by
    refine ⟨madeCells (Value.string ⟨#[]⟩).cells (c * i0.size), ?_, fun u => (run_make (P := Try.prog) u 28 9 i0 _ Try.underlying28 hi hz0 .i64 .i64 0 (c : Int) (by omega) (by omega) (by rw [hz2]; omega) (by omega)).trans (by simp only [Int.toNat_zero, Int.toNat_natCast])⟩
    rw [size_madeCells, hz1]
    simp
  obtain ⟨CC, hCC, hmk⟩ := hmk
  have hc1 : c ≤ 1000 := by omega
  have LE : ∀ V : World, w.grownBy V none → Calls Try.prog 23 #[.pointer (some ⟨b, 0, none⟩)] V fun e w' => e = .returned (.int .i64 (c : Int)) ∧ w' = V := fun V hV => (lenR_any (h.grown hV)).mono fun e w' h' => ⟨by rw [h'.1, hc], h'.2⟩
  have g1 := drew_grown w
  clear hc
  go_enter Try.func32, Try.ntmps32
  go_upto_region 1 with fail
  go_region_with (first
    | (go_at_call 23; refine (LE _ (by first | exact g1 | exact gr_trans g1 hk1.grown)).mono ?_; rintro e w1 ⟨rfl, rfl⟩)
    | (go_at_call 31; refine (keysMk b _).mono ?_; rintro e w2 ⟨rfl, hk1⟩; first | (have HA := hide (mid_a h hn hc1 hCC hk1)) | (have HA := hide (mid_b h hn hc1 hCC hk1)))
    | (go_at_call 34; refine (HA.out).mono ?_; rintro e w5 ⟨v', rfl, hg5, hr5⟩; obtain ⟨a5, c5, rfl⟩ := own_shape hr5))
  all_goals
    go_wp2_with (go_at_call 35; refine (valuesMk _ _ _ _ rfl _).mono ?_; rintro e w6 ⟨rfl, hk6⟩)
    go_ret
    exact all_fin h hn hg5 hr5 hk6
end Go.Proofs.Ytedfhikmlicbgaa
