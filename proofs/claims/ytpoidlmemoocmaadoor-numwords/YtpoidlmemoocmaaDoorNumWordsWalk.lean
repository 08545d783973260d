/- NumWords returns true for every line and every number of words, and writes nothing that was there. Conditions: the listed variables hold what the program's text lays. -/
import Derived.Test.YtpoidlmemoocmaaDoorSame
import Derived.Test.YtpoidlmemoocmaaDoorRefWords
import Derived.Test.YtpoidlmemoocmaaDoorOwn
import Derived.Test.YtpoidlmemoocmaaDoorSumM
import Derived.Stop.RegionWithIn
import Derived.Deep.RegionHeld3
namespace Go.Proofs.YtpoidlmemoocmaaDoor
open Go.RowKit Go.Shelf
attribute [local go_sem] Oper.semAt_some

theorem own_cap {w : World} {base e size n cap : Nat} {a : Option Addr} {xs : List Value} (h : w.ownsRow base e size (.slice a n cap) n xs) : n ≤ cap := by
  rcases h.2 with ⟨h1, h2⟩ | ⟨_, _, _, h1, _, _, h2, _⟩
  · omega
  · cases h1; exact h2
theorem Holds9.on {w w' : World} {v : Value} {xs : List ByteArray} (h : Holds9 w v xs) (hb : Below w.heap.size w w') : Holds9 w' v xs := by
  obtain ⟨a, cap, hv, hc⟩ := h
  refine ⟨a, cap, hv, fun i hi => ?_⟩
  obtain ⟨b, off, ha, hcell⟩ := hc i hi
  exact ⟨b, off, ha, (hb.cell (p := ⟨b, off + i, none⟩) (block_lt_of_cell hcell)).trans hcell⟩
theorem holds_take {w : World} {a : Option Addr} {cap N : Nat} {xs : List ByteArray} (hN : xs.length = N) (h : Holds9 w (.slice a N cap) xs) (n : Nat) (hn : n ≤ N) : Holds9 w (.slice a n cap) (xs.take n) := by
  subst hN
  obtain ⟨a', cap', hv, hc⟩ := h
  cases hv
  have hl : (xs.take n).length = n := by rw [List.length_take]; omega
  refine ⟨a, cap, by rw [hl], fun i hi => ?_⟩
  rw [hl] at hi
  obtain ⟨b, off, ha, hcell⟩ := hc i (by omega)
  refine ⟨b, off, ha, ?_⟩
  rw [hcell]
  simp [List.getD, hi]
theorem deferred_own {β : Type} {D B : Nat} (h : D < B) : OwnFrom B (fun (_ : β) W => W.heap[D]? = some (.deferred (some []))) := fun _ W W' row hs hg hr =>
  (hg.block D (Array.getElem?_eq_some_iff.1 hs).1 (fun e => by have := (hr D e.symm).1; omega)).trans hs

/-- What n is: the number of words, from 0 to all of them. -/
def Cut (most : Int) (N n : Nat) : Prop := (most < 0 ∧ n = 0) ∨ (0 ≤ most ∧ (N : Int) < most ∧ n = N) ∨ (0 ≤ most ∧ most ≤ (N : Int) ∧ most = (n : Int))
set_option maxRecDepth 100000 in
set_option maxHeartbeats 4000000 in
theorem numWords_a (s : ByteArray) (hs : s.size ≤ 5000) (most : Int) (n : Nat) (w : World) (hL : Laid w)
    (q1 : most < 0) (q2 : n = 0) :
    Calls Tryd.prog 5 #[.string s, .int .i64 most] w fun e w' => e = .returned (.bool true) ∧ Below w.heap.size w w' := by
  have hn : Cut most (wordsB s).length n := Or.inl ⟨q1, q2⟩
  unfold Cut at hn
  refine (callsIn_wide (n := 6)).1 ?_
  have hsi : (s.size : Int) ≤ 5000 := by omega
  have hwl := wordsB_len s
  have e5 : (wordsB s).take (Int.toNat 5001) = wordsB s := List.take_of_length_le (by show _ ≤ 5001; omega)
  have C1 := Lib.hid (words_any s hs 5001)
  rw [e5] at C1
  have C2 : Hid (∀ W, Calls Tryd.prog 24 #[.string s, .int .i64 most] W fun e W' => ∃ v, e = .returned v ∧ W'.ownsRow W.heap.size 9 1 v ((wordsB s).take n).length (((wordsB s).take n).map Value.string) ∧ Below W.heap.size W W') := by
    intro W
    have h := words_any s hs most W
    have e : (wordsB s).take most.toNat = (wordsB s).take n := by
      rcases hn with h | h | h
      · rw [h.2, show most.toNat = 0 by omega]
      · rw [h.2.2, List.take_of_length_le (by omega), List.take_of_length_le (Nat.le_refl _)]
      · rw [show most.toNat = n by omega]
    rw [e] at h
    exact h
  obtain ⟨ws, hws⟩ : ∃ ws, ws = wordsB s := ⟨_, rfl⟩
  have C3 := Lib.hid (refWords_any s hs)
  rw [← hws] at C1 C2 C3 hn hwl
  obtain ⟨N, hN⟩ : ∃ N, ws.length = N := ⟨_, rfl⟩
  rw [hN] at C1 C3 hn hwl
  have hnN : n ≤ N := by omega
  have HN := Lib.hid hN
  have HW := Lib.hid hws
  clear hN hws e5
  refine callsIn_of_wp_marks Tryd.func5 rfl trivial ?_ rfl
  simp only [Tryd.ntmps5, List.size_toArray, List.length_cons, List.length_nil, Nat.reduceAdd, Nat.reduceSub, Array.replicate_succ, Array.replicate_zero, List.push_toArray, List.append_toArray, List.nil_append, List.cons_append]
  have h00 : N ≤ 5001 := by omega
  clear hn
  subst q2
  gi_wp2_with (first
    | (refine ⟨trivial, ?_⟩; gi_at_call 9; refine (callsIn_wide.2 (awake_any _ (by assumption))).mono ?_; rintro e w1 ⟨rfl, hb1⟩)
    | (refine ⟨trivial, ?_⟩; gi_at_call 22; refine (callsIn_wide.2 (C3.out _)).mono ?_; clear C3; rintro e w2 ⟨v2, rfl, ho2, hb2⟩; have hB2 := Bt hb1 hb2; obtain ⟨a2, cap2, hva2, hcells2⟩ := holds_own (xs := ws) (by rw [HN.out]; exact ho2); rw [HN.out] at hva2; subst hva2; have hcap := own_cap ho2; have hncap := Int.ofNat_le.2 (Nat.le_trans hnN hcap); clear hcells2 hb1 hb2)
    | (refine ⟨trivial, ?_⟩; gi_at_call 24; refine (callsIn_wide.2 (C1.out _)).mono ?_; clear C1; rintro e w3 ⟨v3, rfl, ho3, hb3⟩; have hB3 := Bt hB2 hb3; have H3 := Lib.hid (holds_own (xs := ws) (by rw [HN.out]; exact ho3)); have H2 := Lib.hid ((holds_own (xs := ws) (by rw [HN.out]; exact ho2)).on hb3); clear ho3 hb3)
    | (refine ⟨trivial, ?_⟩; gi_at_call 23; refine (callsIn_wide.2 (same_eq _ _ _ ws (by rw [HN.out]; omega) H3.out H2.out)).mono ?_; rintro e w4 ⟨rfl, hb4⟩; have hB4 := Bt hB3 hb4; have H4 := Lib.hid (H2.out.on hb4); clear H2 H3 hb4))
  have hB4d := hB4.drew
  have H4d := Lib.hid (H4.out.on (Below.drew (Below.refl _ _)))
  refine Code.wpIn_mono NoPanic.imp ?_
  gi_region_with (first
    | (refine ⟨trivial, ?_⟩; gi_at_call 24; refine (callsIn_wide.2 (C2.out _)).mono ?_; clear C2; rintro e w5 ⟨v5, rfl, ho5, hb5⟩; have hB5 := Bt hB4d hb5; have H5 := Lib.hid (holds_own ho5); have H6 := Lib.hid (holds_take HN.out (H4d.out.on hb5) _ hnN); clear ho5 hb5)
    | (refine ⟨trivial, ?_⟩; gi_at_call 23; refine (callsIn_wide.2 (same_eq _ _ _ _ (by rw [List.length_take]; omega) H5.out H6.out)).mono ?_; rintro e w6 ⟨rfl, hb6⟩; have hB6 := Bt hB5 hb6; clear H5 hb6))
  refine NoPanic.normal ?_
  clear H4 H4d hB4 hB4d hB3 hB2
  gi_wp2_with (refine ⟨trivial, ?_⟩; gi_at_call 25; refine (wordsMk_in Fence.wide (6 - 1) trivial rfl s _).mono ?_; rintro e w' ⟨rfl, rfl⟩)
  have bS := (Boxed.new w6 9 (.string s)).alloc (.cells #[.int .i64 0] 3)
  have bK := Boxed.new (w6.alloc (.cells #[.string s] 9)) 3 (.int .i64 0)
  simp only [World.size_alloc] at bK
  have hB7 : Below w.heap.size w ((w6.alloc (.cells #[.string s] 9)).alloc (.cells #[.int .i64 0] 3)) := (hB6.alloc hB6.size _).alloc (by have := hB6.size; simp; omega) _
  refine wpIn_rangeFunc_ownF rfl (by decide) (gf := 29) (lb := #[.pointer (some ⟨w6.heap.size, 0, none⟩)]) rfl trivial (enters_of Tryd.func29 (by kernel_rfl) rfl)
    (words_stops Fence.wide (6 - 1) trivial rfl (by decide) w6.heap.size s (by omega) _ (by simp; omega) bS.cell) boxKept_t (boxKept_b (by simp; omega)) (Below.refl _ _) (fun _ => rfl)
    (fun pre W => (Boxed W (w6.heap.size + 1) 3 (.int .i64 (sumW pre)) ∧ Boxed W w6.heap.size 9 (.string s)) ∧ Below w.heap.size w W)
    (fun _ _ _ => False)
    (OwnFrom.and (OwnFrom.and (Own.from (boxed_own (w6.heap.size + 1) 3 (fun pre => .int .i64 (sumW pre))) _) (Own.from (boxed_own w6.heap.size 9 (fun _ => .string s)) _)) (ownFrom_below (Nat.le_refl _) (by have := hB6.size; simp; omega)))
    (fun _ _ _ _ _ hs _ _ => hs)
    ⟨⟨bK, bS⟩, hB7⟩ ?a1 ?assign ?body ?done ?stop
  case assign =>
    intro l x W K hK
    gi_wp2
    exact hK
  case body =>
    rintro l pre x W ⟨⟨hk, hs'⟩, hB⟩ _
    have hc := hk.cell
    have hf := hk.frozen
    gi_wp2
    exact ⟨KeepsOthers.setCell _ _ _, (hs'.other (by omega) _).cell.trans hs'.cell.symm, ⟨by rw [sumW_snoc]; exact hk.set _, hs'.other (by omega) _⟩, hB.setCell (p := ⟨w6.heap.size + 1, 0, none⟩) (by have := hB6.size; show _ ≤ w6.heap.size + 1; omega) _⟩
  case stop =>
    rintro D c pre W _ _ h _
    exact h.elim
  case done =>
    rintro D ys W hD rfl ⟨⟨hk, hs'⟩, hB⟩ hK
    have hDW : D < W.heap.size := (Array.getElem?_eq_some_iff.1 hK).1
    gi_wp2
    refine wpIn_rangeFunc_ownF rfl (by decide) (gf := 29) (lb := #[.pointer (some ⟨w6.heap.size, 0, none⟩)]) rfl trivial (enters_of Tryd.func29 (by kernel_rfl) rfl)
      (words_stops Fence.wide (6 - 1) trivial rfl (by decide) w6.heap.size s (by omega) _ hs'.lt hs'.cell) boxKept_t (boxKept_b hs'.lt) (Below.refl _ _) (fun _ => rfl)
      (fun pre W' => ((Boxed W' (w6.heap.size + 1) 3 (.int .i64 (subW (sumW (wordsB s)) pre)) ∧ Boxed W' w6.heap.size 9 (.string s)) ∧ W'.heap[D]? = some (.deferred (some []))) ∧ Below w.heap.size w W')
      (fun _ _ _ => False)
      (OwnFrom.and (OwnFrom.and (OwnFrom.and (Own.from (boxed_own (w6.heap.size + 1) 3 (fun pre => .int .i64 (subW (sumW (wordsB s)) pre))) _) (Own.from (boxed_own w6.heap.size 9 (fun _ => .string s)) _)) (deferred_own hDW)) (ownFrom_below (Nat.le_refl _) (Nat.le_trans hB.size (Nat.le_refl _))))
      (fun _ _ _ _ _ hs _ _ => hs)
      ⟨⟨⟨hk, hs'⟩, hK⟩, hB⟩ ?a2 ?assign2 ?body2 ?done2 ?stop2
    case assign2 =>
      intro l x W' K hK'
      gi_wp2
      exact hK'
    case body2 =>
      rintro l pre x W' ⟨⟨⟨hk2, hs2⟩, hd2⟩, hB2'⟩ _
      have hc := hk2.cell
      have hf := hk2.frozen
      gi_wp2
      exact ⟨KeepsOthers.setCell _ _ _, (hs2.other (by omega) _).cell.trans hs2.cell.symm, ⟨⟨by rw [subW_snoc]; exact hk2.set _, hs2.other (by omega) _⟩, (KeepsOthers.setCell _ _ _).same D _ hd2 rfl⟩, hB2'.setCell (p := ⟨w6.heap.size + 1, 0, none⟩) (by have := hB6.size; show _ ≤ w6.heap.size + 1; omega) _⟩
    case stop2 =>
      rintro D2 c pre W' _ _ h _
      exact h.elim
    case done2 =>
      rintro D2 ys2 W2 hD2 rfl ⟨⟨⟨hk2, hs2⟩, hd2⟩, hB2'⟩ hK2
      have hc := hk2.cell
      rw [sub_sum] at hc
      gi_wp2
      refine ⟨by simp, .inl ⟨_, _, rfl, run_takeDeferred hK2, ?_⟩⟩
      have hd3 : (W2.putObj D2 (.deferred none)).heap[D]? = some (.deferred (some [])) := (World.putObj_heap_other (by omega)).trans hd2
      refine ⟨by simp, .inl ⟨_, _, rfl, run_takeDeferred hd3, ?_⟩⟩
      exact ⟨_, results_tmp rfl _ _ _, rfl, (hB2'.trans (belowK_b (w := w) (Nat.le_refl _) W2 D2 _ _ (by have := hB.size; omega) hK2 rfl rfl)).trans (belowK_b (w := w) (Nat.le_refl _) _ D _ _ (by have := hB7.size; omega) hd3 rfl rfl)⟩
set_option maxRecDepth 100000 in
set_option maxHeartbeats 4000000 in
theorem numWords_b (s : ByteArray) (hs : s.size ≤ 5000) (most : Int) (n : Nat) (w : World) (hL : Laid w)
    (q1 : 0 ≤ most) (q2 : ((wordsB s).length : Int) < most) (q3 : n = (wordsB s).length) :
    Calls Tryd.prog 5 #[.string s, .int .i64 most] w fun e w' => e = .returned (.bool true) ∧ Below w.heap.size w w' := by
  have hn : Cut most (wordsB s).length n := Or.inr (Or.inl ⟨q1, q2, q3⟩)
  unfold Cut at hn
  refine (callsIn_wide (n := 6)).1 ?_
  have hsi : (s.size : Int) ≤ 5000 := by omega
  have hwl := wordsB_len s
  have e5 : (wordsB s).take (Int.toNat 5001) = wordsB s := List.take_of_length_le (by show _ ≤ 5001; omega)
  have C1 := Lib.hid (words_any s hs 5001)
  rw [e5] at C1
  have C2 : Hid (∀ W, Calls Tryd.prog 24 #[.string s, .int .i64 most] W fun e W' => ∃ v, e = .returned v ∧ W'.ownsRow W.heap.size 9 1 v ((wordsB s).take n).length (((wordsB s).take n).map Value.string) ∧ Below W.heap.size W W') := by
    intro W
    have h := words_any s hs most W
    have e : (wordsB s).take most.toNat = (wordsB s).take n := by
      rcases hn with h | h | h
      · rw [h.2, show most.toNat = 0 by omega]
      · rw [h.2.2, List.take_of_length_le (by omega), List.take_of_length_le (Nat.le_refl _)]
      · rw [show most.toNat = n by omega]
    rw [e] at h
    exact h
  obtain ⟨ws, hws⟩ : ∃ ws, ws = wordsB s := ⟨_, rfl⟩
  have C3 := Lib.hid (refWords_any s hs)
  rw [← hws] at C1 C2 C3 hn hwl q2 q3
  obtain ⟨N, hN⟩ : ∃ N, ws.length = N := ⟨_, rfl⟩
  rw [hN] at C1 C3 hn hwl q2 q3
  have hnN : n ≤ N := by omega
  have HN := Lib.hid hN
  have HW := Lib.hid hws
  clear hN hws e5
  refine callsIn_of_wp_marks Tryd.func5 rfl trivial ?_ rfl
  simp only [Tryd.ntmps5, List.size_toArray, List.length_cons, List.length_nil, Nat.reduceAdd, Nat.reduceSub, Array.replicate_succ, Array.replicate_zero, List.push_toArray, List.append_toArray, List.nil_append, List.cons_append]
  have h00 : N ≤ 5001 := by omega
  clear hn
  subst q3
  gi_wp2_with (first
    | (refine ⟨trivial, ?_⟩; gi_at_call 9; refine (callsIn_wide.2 (awake_any _ (by assumption))).mono ?_; rintro e w1 ⟨rfl, hb1⟩)
    | (refine ⟨trivial, ?_⟩; gi_at_call 22; refine (callsIn_wide.2 (C3.out _)).mono ?_; clear C3; rintro e w2 ⟨v2, rfl, ho2, hb2⟩; have hB2 := Bt hb1 hb2; obtain ⟨a2, cap2, hva2, hcells2⟩ := holds_own (xs := ws) (by rw [HN.out]; exact ho2); rw [HN.out] at hva2; subst hva2; have hcap := own_cap ho2; have hncap := Int.ofNat_le.2 (Nat.le_trans hnN hcap); clear hcells2 hb1 hb2)
    | (refine ⟨trivial, ?_⟩; gi_at_call 24; refine (callsIn_wide.2 (C1.out _)).mono ?_; clear C1; rintro e w3 ⟨v3, rfl, ho3, hb3⟩; have hB3 := Bt hB2 hb3; have H3 := Lib.hid (holds_own (xs := ws) (by rw [HN.out]; exact ho3)); have H2 := Lib.hid ((holds_own (xs := ws) (by rw [HN.out]; exact ho2)).on hb3); clear ho3 hb3)
    | (refine ⟨trivial, ?_⟩; gi_at_call 23; refine (callsIn_wide.2 (same_eq _ _ _ ws (by rw [HN.out]; omega) H3.out H2.out)).mono ?_; rintro e w4 ⟨rfl, hb4⟩; have hB4 := Bt hB3 hb4; have H4 := Lib.hid (H2.out.on hb4); clear H2 H3 hb4))
  have hB4d := hB4.drew
  have H4d := Lib.hid (H4.out.on (Below.drew (Below.refl _ _)))
  refine Code.wpIn_mono NoPanic.imp ?_
  gi_region_with (first
    | (refine ⟨trivial, ?_⟩; gi_at_call 24; refine (callsIn_wide.2 (C2.out _)).mono ?_; clear C2; rintro e w5 ⟨v5, rfl, ho5, hb5⟩; have hB5 := Bt hB4d hb5; have H5 := Lib.hid (holds_own ho5); have H6 := Lib.hid (holds_take HN.out (H4d.out.on hb5) _ hnN); clear ho5 hb5)
    | (refine ⟨trivial, ?_⟩; gi_at_call 23; refine (callsIn_wide.2 (same_eq _ _ _ _ (by rw [List.length_take]; omega) H5.out H6.out)).mono ?_; rintro e w6 ⟨rfl, hb6⟩; have hB6 := Bt hB5 hb6; clear H5 hb6))
  refine NoPanic.normal ?_
  clear H4 H4d hB4 hB4d hB3 hB2
  gi_wp2_with (refine ⟨trivial, ?_⟩; gi_at_call 25; refine (wordsMk_in Fence.wide (6 - 1) trivial rfl s _).mono ?_; rintro e w' ⟨rfl, rfl⟩)
  have bS := (Boxed.new w6 9 (.string s)).alloc (.cells #[.int .i64 0] 3)
  have bK := Boxed.new (w6.alloc (.cells #[.string s] 9)) 3 (.int .i64 0)
  simp only [World.size_alloc] at bK
  have hB7 : Below w.heap.size w ((w6.alloc (.cells #[.string s] 9)).alloc (.cells #[.int .i64 0] 3)) := (hB6.alloc hB6.size _).alloc (by have := hB6.size; simp; omega) _
  refine wpIn_rangeFunc_ownF rfl (by decide) (gf := 29) (lb := #[.pointer (some ⟨w6.heap.size, 0, none⟩)]) rfl trivial (enters_of Tryd.func29 (by kernel_rfl) rfl)
    (words_stops Fence.wide (6 - 1) trivial rfl (by decide) w6.heap.size s (by omega) _ (by simp; omega) bS.cell) boxKept_t (boxKept_b (by simp; omega)) (Below.refl _ _) (fun _ => rfl)
    (fun pre W => (Boxed W (w6.heap.size + 1) 3 (.int .i64 (sumW pre)) ∧ Boxed W w6.heap.size 9 (.string s)) ∧ Below w.heap.size w W)
    (fun _ _ _ => False)
    (OwnFrom.and (OwnFrom.and (Own.from (boxed_own (w6.heap.size + 1) 3 (fun pre => .int .i64 (sumW pre))) _) (Own.from (boxed_own w6.heap.size 9 (fun _ => .string s)) _)) (ownFrom_below (Nat.le_refl _) (by have := hB6.size; simp; omega)))
    (fun _ _ _ _ _ hs _ _ => hs)
    ⟨⟨bK, bS⟩, hB7⟩ ?a1 ?assign ?body ?done ?stop
  case assign =>
    intro l x W K hK
    gi_wp2
    exact hK
  case body =>
    rintro l pre x W ⟨⟨hk, hs'⟩, hB⟩ _
    have hc := hk.cell
    have hf := hk.frozen
    gi_wp2
    exact ⟨KeepsOthers.setCell _ _ _, (hs'.other (by omega) _).cell.trans hs'.cell.symm, ⟨by rw [sumW_snoc]; exact hk.set _, hs'.other (by omega) _⟩, hB.setCell (p := ⟨w6.heap.size + 1, 0, none⟩) (by have := hB6.size; show _ ≤ w6.heap.size + 1; omega) _⟩
  case stop =>
    rintro D c pre W _ _ h _
    exact h.elim
  case done =>
    rintro D ys W hD rfl ⟨⟨hk, hs'⟩, hB⟩ hK
    have hDW : D < W.heap.size := (Array.getElem?_eq_some_iff.1 hK).1
    gi_wp2
    refine wpIn_rangeFunc_ownF rfl (by decide) (gf := 29) (lb := #[.pointer (some ⟨w6.heap.size, 0, none⟩)]) rfl trivial (enters_of Tryd.func29 (by kernel_rfl) rfl)
      (words_stops Fence.wide (6 - 1) trivial rfl (by decide) w6.heap.size s (by omega) _ hs'.lt hs'.cell) boxKept_t (boxKept_b hs'.lt) (Below.refl _ _) (fun _ => rfl)
      (fun pre W' => ((Boxed W' (w6.heap.size + 1) 3 (.int .i64 (subW (sumW (wordsB s)) pre)) ∧ Boxed W' w6.heap.size 9 (.string s)) ∧ W'.heap[D]? = some (.deferred (some []))) ∧ Below w.heap.size w W')
      (fun _ _ _ => False)
      (OwnFrom.and (OwnFrom.and (OwnFrom.and (Own.from (boxed_own (w6.heap.size + 1) 3 (fun pre => .int .i64 (subW (sumW (wordsB s)) pre))) _) (Own.from (boxed_own w6.heap.size 9 (fun _ => .string s)) _)) (deferred_own hDW)) (ownFrom_below (Nat.le_refl _) (Nat.le_trans hB.size (Nat.le_refl _))))
      (fun _ _ _ _ _ hs _ _ => hs)
      ⟨⟨⟨hk, hs'⟩, hK⟩, hB⟩ ?a2 ?assign2 ?body2 ?done2 ?stop2
    case assign2 =>
      intro l x W' K hK'
      gi_wp2
      exact hK'
    case body2 =>
      rintro l pre x W' ⟨⟨⟨hk2, hs2⟩, hd2⟩, hB2'⟩ _
      have hc := hk2.cell
      have hf := hk2.frozen
      gi_wp2
      exact ⟨KeepsOthers.setCell _ _ _, (hs2.other (by omega) _).cell.trans hs2.cell.symm, ⟨⟨by rw [subW_snoc]; exact hk2.set _, hs2.other (by omega) _⟩, (KeepsOthers.setCell _ _ _).same D _ hd2 rfl⟩, hB2'.setCell (p := ⟨w6.heap.size + 1, 0, none⟩) (by have := hB6.size; show _ ≤ w6.heap.size + 1; omega) _⟩
    case stop2 =>
      rintro D2 c pre W' _ _ h _
      exact h.elim
    case done2 =>
      rintro D2 ys2 W2 hD2 rfl ⟨⟨⟨hk2, hs2⟩, hd2⟩, hB2'⟩ hK2
      have hc := hk2.cell
      rw [sub_sum] at hc
      gi_wp2
      refine ⟨by simp, .inl ⟨_, _, rfl, run_takeDeferred hK2, ?_⟩⟩
      have hd3 : (W2.putObj D2 (.deferred none)).heap[D]? = some (.deferred (some [])) := (World.putObj_heap_other (by omega)).trans hd2
      refine ⟨by simp, .inl ⟨_, _, rfl, run_takeDeferred hd3, ?_⟩⟩
      exact ⟨_, results_tmp rfl _ _ _, rfl, (hB2'.trans (belowK_b (w := w) (Nat.le_refl _) W2 D2 _ _ (by have := hB.size; omega) hK2 rfl rfl)).trans (belowK_b (w := w) (Nat.le_refl _) _ D _ _ (by have := hB7.size; omega) hd3 rfl rfl)⟩
set_option maxRecDepth 100000 in
set_option maxHeartbeats 4000000 in
theorem numWords_c (s : ByteArray) (hs : s.size ≤ 5000) (most : Int) (n : Nat) (w : World) (hL : Laid w)
    (q1 : 0 ≤ most) (q2 : most ≤ ((wordsB s).length : Int)) (q3 : most = (n : Int)) :
    Calls Tryd.prog 5 #[.string s, .int .i64 most] w fun e w' => e = .returned (.bool true) ∧ Below w.heap.size w w' := by
  have hn : Cut most (wordsB s).length n := Or.inr (Or.inr ⟨q1, q2, q3⟩)
  unfold Cut at hn
  refine (callsIn_wide (n := 6)).1 ?_
  have hsi : (s.size : Int) ≤ 5000 := by omega
  have hwl := wordsB_len s
  have e5 : (wordsB s).take (Int.toNat 5001) = wordsB s := List.take_of_length_le (by show _ ≤ 5001; omega)
  have C1 := Lib.hid (words_any s hs 5001)
  rw [e5] at C1
  have C2 : Hid (∀ W, Calls Tryd.prog 24 #[.string s, .int .i64 most] W fun e W' => ∃ v, e = .returned v ∧ W'.ownsRow W.heap.size 9 1 v ((wordsB s).take n).length (((wordsB s).take n).map Value.string) ∧ Below W.heap.size W W') := by
    intro W
    have h := words_any s hs most W
    have e : (wordsB s).take most.toNat = (wordsB s).take n := by
      rcases hn with h | h | h
      · rw [h.2, show most.toNat = 0 by omega]
      · rw [h.2.2, List.take_of_length_le (by omega), List.take_of_length_le (Nat.le_refl _)]
      · rw [show most.toNat = n by omega]
    rw [e] at h
    exact h
  obtain ⟨ws, hws⟩ : ∃ ws, ws = wordsB s := ⟨_, rfl⟩
  have C3 := Lib.hid (refWords_any s hs)
  rw [← hws] at C1 C2 C3 hn hwl q2
  obtain ⟨N, hN⟩ : ∃ N, ws.length = N := ⟨_, rfl⟩
  rw [hN] at C1 C3 hn hwl q2
  have hnN : n ≤ N := by omega
  have HN := Lib.hid hN
  have HW := Lib.hid hws
  clear hN hws e5
  refine callsIn_of_wp_marks Tryd.func5 rfl trivial ?_ rfl
  simp only [Tryd.ntmps5, List.size_toArray, List.length_cons, List.length_nil, Nat.reduceAdd, Nat.reduceSub, Array.replicate_succ, Array.replicate_zero, List.push_toArray, List.append_toArray, List.nil_append, List.cons_append]
  have h00 : N ≤ 5001 := by omega
  clear hn
  subst q3
  gi_wp2_with (first
    | (refine ⟨trivial, ?_⟩; gi_at_call 9; refine (callsIn_wide.2 (awake_any _ (by assumption))).mono ?_; rintro e w1 ⟨rfl, hb1⟩)
    | (refine ⟨trivial, ?_⟩; gi_at_call 22; refine (callsIn_wide.2 (C3.out _)).mono ?_; clear C3; rintro e w2 ⟨v2, rfl, ho2, hb2⟩; have hB2 := Bt hb1 hb2; obtain ⟨a2, cap2, hva2, hcells2⟩ := holds_own (xs := ws) (by rw [HN.out]; exact ho2); rw [HN.out] at hva2; subst hva2; have hcap := own_cap ho2; have hncap := Int.ofNat_le.2 (Nat.le_trans hnN hcap); clear hcells2 hb1 hb2)
    | (refine ⟨trivial, ?_⟩; gi_at_call 24; refine (callsIn_wide.2 (C1.out _)).mono ?_; clear C1; rintro e w3 ⟨v3, rfl, ho3, hb3⟩; have hB3 := Bt hB2 hb3; have H3 := Lib.hid (holds_own (xs := ws) (by rw [HN.out]; exact ho3)); have H2 := Lib.hid ((holds_own (xs := ws) (by rw [HN.out]; exact ho2)).on hb3); clear ho3 hb3)
    | (refine ⟨trivial, ?_⟩; gi_at_call 23; refine (callsIn_wide.2 (same_eq _ _ _ ws (by rw [HN.out]; omega) H3.out H2.out)).mono ?_; rintro e w4 ⟨rfl, hb4⟩; have hB4 := Bt hB3 hb4; have H4 := Lib.hid (H2.out.on hb4); clear H2 H3 hb4))
  have hB4d := hB4.drew
  have H4d := Lib.hid (H4.out.on (Below.drew (Below.refl _ _)))
  refine Code.wpIn_mono NoPanic.imp ?_
  gi_region_with (first
    | (refine ⟨trivial, ?_⟩; gi_at_call 24; refine (callsIn_wide.2 (C2.out _)).mono ?_; clear C2; rintro e w5 ⟨v5, rfl, ho5, hb5⟩; have hB5 := Bt hB4d hb5; have H5 := Lib.hid (holds_own ho5); have H6 := Lib.hid (holds_take HN.out (H4d.out.on hb5) _ hnN); clear ho5 hb5)
    | (refine ⟨trivial, ?_⟩; gi_at_call 23; refine (callsIn_wide.2 (same_eq _ _ _ _ (by rw [List.length_take]; omega) H5.out H6.out)).mono ?_; rintro e w6 ⟨rfl, hb6⟩; have hB6 := Bt hB5 hb6; clear H5 hb6))
  refine NoPanic.normal ?_
  clear H4 H4d hB4 hB4d hB3 hB2
  gi_wp2_with (refine ⟨trivial, ?_⟩; gi_at_call 25; refine (wordsMk_in Fence.wide (6 - 1) trivial rfl s _).mono ?_; rintro e w' ⟨rfl, rfl⟩)
  have bS := (Boxed.new w6 9 (.string s)).alloc (.cells #[.int .i64 0] 3)
  have bK := Boxed.new (w6.alloc (.cells #[.string s] 9)) 3 (.int .i64 0)
  simp only [World.size_alloc] at bK
  have hB7 : Below w.heap.size w ((w6.alloc (.cells #[.string s] 9)).alloc (.cells #[.int .i64 0] 3)) := (hB6.alloc hB6.size _).alloc (by have := hB6.size; simp; omega) _
  refine wpIn_rangeFunc_ownF rfl (by decide) (gf := 29) (lb := #[.pointer (some ⟨w6.heap.size, 0, none⟩)]) rfl trivial (enters_of Tryd.func29 (by kernel_rfl) rfl)
    (words_stops Fence.wide (6 - 1) trivial rfl (by decide) w6.heap.size s (by omega) _ (by simp; omega) bS.cell) boxKept_t (boxKept_b (by simp; omega)) (Below.refl _ _) (fun _ => rfl)
    (fun pre W => (Boxed W (w6.heap.size + 1) 3 (.int .i64 (sumW pre)) ∧ Boxed W w6.heap.size 9 (.string s)) ∧ Below w.heap.size w W)
    (fun _ _ _ => False)
    (OwnFrom.and (OwnFrom.and (Own.from (boxed_own (w6.heap.size + 1) 3 (fun pre => .int .i64 (sumW pre))) _) (Own.from (boxed_own w6.heap.size 9 (fun _ => .string s)) _)) (ownFrom_below (Nat.le_refl _) (by have := hB6.size; simp; omega)))
    (fun _ _ _ _ _ hs _ _ => hs)
    ⟨⟨bK, bS⟩, hB7⟩ ?a1 ?assign ?body ?done ?stop
  case assign =>
    intro l x W K hK
    gi_wp2
    exact hK
  case body =>
    rintro l pre x W ⟨⟨hk, hs'⟩, hB⟩ _
    have hc := hk.cell
    have hf := hk.frozen
    gi_wp2
    exact ⟨KeepsOthers.setCell _ _ _, (hs'.other (by omega) _).cell.trans hs'.cell.symm, ⟨by rw [sumW_snoc]; exact hk.set _, hs'.other (by omega) _⟩, hB.setCell (p := ⟨w6.heap.size + 1, 0, none⟩) (by have := hB6.size; show _ ≤ w6.heap.size + 1; omega) _⟩
  case stop =>
    rintro D c pre W _ _ h _
    exact h.elim
  case done =>
    rintro D ys W hD rfl ⟨⟨hk, hs'⟩, hB⟩ hK
    have hDW : D < W.heap.size := (Array.getElem?_eq_some_iff.1 hK).1
    gi_wp2
    refine wpIn_rangeFunc_ownF rfl (by decide) (gf := 29) (lb := #[.pointer (some ⟨w6.heap.size, 0, none⟩)]) rfl trivial (enters_of Tryd.func29 (by kernel_rfl) rfl)
      (words_stops Fence.wide (6 - 1) trivial rfl (by decide) w6.heap.size s (by omega) _ hs'.lt hs'.cell) boxKept_t (boxKept_b hs'.lt) (Below.refl _ _) (fun _ => rfl)
      (fun pre W' => ((Boxed W' (w6.heap.size + 1) 3 (.int .i64 (subW (sumW (wordsB s)) pre)) ∧ Boxed W' w6.heap.size 9 (.string s)) ∧ W'.heap[D]? = some (.deferred (some []))) ∧ Below w.heap.size w W')
      (fun _ _ _ => False)
      (OwnFrom.and (OwnFrom.and (OwnFrom.and (Own.from (boxed_own (w6.heap.size + 1) 3 (fun pre => .int .i64 (subW (sumW (wordsB s)) pre))) _) (Own.from (boxed_own w6.heap.size 9 (fun _ => .string s)) _)) (deferred_own hDW)) (ownFrom_below (Nat.le_refl _) (Nat.le_trans hB.size (Nat.le_refl _))))
      (fun _ _ _ _ _ hs _ _ => hs)
      ⟨⟨⟨hk, hs'⟩, hK⟩, hB⟩ ?a2 ?assign2 ?body2 ?done2 ?stop2
    case assign2 =>
      intro l x W' K hK'
      gi_wp2
      exact hK'
    case body2 =>
      rintro l pre x W' ⟨⟨⟨hk2, hs2⟩, hd2⟩, hB2'⟩ _
      have hc := hk2.cell
      have hf := hk2.frozen
      gi_wp2
      exact ⟨KeepsOthers.setCell _ _ _, (hs2.other (by omega) _).cell.trans hs2.cell.symm, ⟨⟨by rw [subW_snoc]; exact hk2.set _, hs2.other (by omega) _⟩, (KeepsOthers.setCell _ _ _).same D _ hd2 rfl⟩, hB2'.setCell (p := ⟨w6.heap.size + 1, 0, none⟩) (by have := hB6.size; show _ ≤ w6.heap.size + 1; omega) _⟩
    case stop2 =>
      rintro D2 c pre W' _ _ h _
      exact h.elim
    case done2 =>
      rintro D2 ys2 W2 hD2 rfl ⟨⟨⟨hk2, hs2⟩, hd2⟩, hB2'⟩ hK2
      have hc := hk2.cell
      rw [sub_sum] at hc
      gi_wp2
      refine ⟨by simp, .inl ⟨_, _, rfl, run_takeDeferred hK2, ?_⟩⟩
      have hd3 : (W2.putObj D2 (.deferred none)).heap[D]? = some (.deferred (some [])) := (World.putObj_heap_other (by omega)).trans hd2
      refine ⟨by simp, .inl ⟨_, _, rfl, run_takeDeferred hd3, ?_⟩⟩
      exact ⟨_, results_tmp rfl _ _ _, rfl, (hB2'.trans (belowK_b (w := w) (Nat.le_refl _) W2 D2 _ _ (by have := hB.size; omega) hK2 rfl rfl)).trans (belowK_b (w := w) (Nat.le_refl _) _ D _ _ (by have := hB7.size; omega) hd3 rfl rfl)⟩

set_option maxHeartbeats 1000000 in
theorem numWords_out (s : ByteArray) (hs : 5000 < s.size) (most : Int) (w : World) (hL : Laid w) :
    Calls Tryd.prog 5 #[.string s, .int .i64 most] w fun e w' => e = .returned (.bool true) ∧ Below w.heap.size w w' := by
  have hsi : (5000 : Int) < (s.size : Int) := by omega
  go_enter Tryd.func5, Tryd.ntmps5
  go_wp2_with (go_at_call 9; refine (awake_any _ (by assumption)).mono ?_; rintro e w' ⟨rfl, hb⟩)
  go_ret
  exact ⟨rfl, by assumption⟩

theorem numWords_walk (s0 : ByteArray) (_w0 : s0.size ≤ 140737488351232) (a1 : Int) (_w1 : (Lit.int .i64 a1).wf = true) (W : World) (hL : Laid W) :
    Calls Tryd.prog 5 #[.string s0, .int .i64 a1] W fun e W' => e = .returned (.bool true) ∧ Below W.heap.size W W' := by
  by_cases h : s0.size ≤ 5000
  · by_cases h1 : a1 < 0
    · exact numWords_a s0 h a1 0 W hL h1 rfl
    · by_cases h2 : ((wordsB s0).length : Int) < a1
      · exact numWords_b s0 h a1 _ W hL (by omega) h2 rfl
      · exact numWords_c s0 h a1 a1.toNat W hL (by omega) (by omega) (by omega)
  · exact numWords_out s0 (by omega) a1 W hL
end Go.Proofs.YtpoidlmemoocmaaDoor
