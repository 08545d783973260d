/- The statements' own helper that collects a line's words, at most so many: a new slice of just these. Conditions: the line takes at most 5000 bytes. -/
import Derived.Test.YtpoidlmemoocmaaDoorWords
namespace Go.Proofs.YtpoidlmemoocmaaDoor
open Go.RowKit Go.Shelf
attribute [local go_sem] Oper.semAt_some

theorem info_str : (Tryd.prog.info? 9).map (fun i => (i.zero, i.size, i.bytes)) = some (some (.string ⟨#[]⟩), 1, 16) := by kernel_rfl

theorem boxKept_b {Bs : Nat} {w : World} (h : Bs < w.heap.size) : ∀ (W : World) (l : Nat) (o o' : Obj), w.heap.size ≤ l → W.heap[l]? = some o → o.isCells = false → o.isWalk = false → BoxKept Bs W (W.putObj l o') := fun W l o o' hl _ _ _ => by
  unfold BoxKept
  exact World.cell?_of_block (w := W) (World.putObj_heap_other (show Bs ≠ l by omega))
theorem boxKept_t {Bs : Nat} {A B C : World} (h : BoxKept Bs A B) (k : BoxKept Bs B C) : BoxKept Bs A C := Eq.trans k h

theorem row_beyond {W : World} {base e size k : Nat} {v : Value} {xs : List Value} (h : W.ownsRow base e size v k xs) {B : Nat} (hB : B < base) : some B ≠ v.ownBlock := by
  rcases h.2 with ⟨rfl, _⟩ | ⟨g, cap, cur, rfl, hg, _⟩
  · simp [Value.ownBlock]
  · intro e'
    have : B = g := by simpa [Value.ownBlock] using e'
    omega

/-- Behind an append to a boxed slice whose row lies beyond all boxes: the store goes through, the box holds the longer slice, the other boxes hold what they held. -/
theorem appended3 {W w1 : World} {n₀ B b : Nat} {t e : TypeId} {size : Nat} {v v' : Value} {k m : Nat} {xs ys : List Value} {tmp : Obj}
    (hv : Boxed W B t v) (hrow : W.ownsRow b e size v k xs) (hn : b ≤ W.heap.size) (hBb : B < b) (h0 : n₀ ≤ B)
    (hown' : w1.ownsRow b e size v' m ys) (hgrow : (W.alloc tmp).grownBy w1 v.ownBlock) :
    Boxed w1 B t v ∧ Boxed (w1.setCell ⟨B, 0, none⟩ v') B t v' ∧ (w1.setCell ⟨B, 0, none⟩ v').ownsRow b e size v' m ys ∧ KeepsOthers W (w1.setCell ⟨B, 0, none⟩ v') ∧ Below n₀ W (w1.setCell ⟨B, 0, none⟩ v') ∧
      (∀ B' t' u, Boxed W B' t' u → B' < b → B' ≠ B → Boxed (w1.setCell ⟨B, 0, none⟩ v') B' t' u) := by
  have hv1 : Boxed w1 B t v := (hv.alloc tmp).kept hgrow (row_beyond hrow hBb)
  refine ⟨hv1, hv1.set v', ownsRow_setCell_below hown' hBb v', ?_, ?_, ?_⟩
  · refine ((KeepsOthers.alloc W tmp).trans (KeepsOthers.of_grownBy hgrow fun j o ej hj => ?_)).trans (KeepsOthers.setCell _ _ _)
    rcases (hrow.alloc tmp).2 with ⟨rfl, _⟩ | ⟨g, cap, cur, rfl, _, hgb, _⟩
    · simp [Value.ownBlock] at ej
    · obtain rfl : g = j := by simpa [Value.ownBlock] using ej
      rw [hgb] at hj; cases hj; rfl
  · refine (((Below.refl n₀ W).alloc (by omega) tmp).grown hgrow (by simp; omega) fun j ej => ?_).setCell (p := ⟨B, 0, none⟩) h0 v'
    rcases hrow.2 with ⟨rfl, _⟩ | ⟨g, cap, cur, rfl, hb, _, _⟩
    · simp [Value.ownBlock] at ej
    · obtain rfl : g = j := by simpa [Value.ownBlock] using ej
      omega
  · intro B' t' u h hb hne
    exact Boxed.other ((h.alloc tmp).kept hgrow (row_beyond hrow hb)) hne v'
theorem ownsRow_mono {W : World} {b b' : Nat} {e : TypeId} {size k : Nat} {v : Value} {xs : List Value} (h : W.ownsRow b e size v k xs) (hb : b' ≤ b) : W.ownsRow b' e size v k xs := by
  refine ⟨h.1, ?_⟩
  rcases h.2 with h2 | ⟨g, cap, cur, hv, hg, r⟩
  · exact .inl h2
  · exact .inr ⟨g, cap, cur, hv, by omega, r⟩

set_option maxRecDepth 100000 in
set_option maxHeartbeats 4000000 in
theorem words_pos (s : ByteArray) (hs : s.size ≤ 5000) (most : Int) (hm : 1 ≤ most) (w : World) :
    Calls Tryd.prog 24 #[.string s, .int .i64 most] w fun e W' => ∃ v, e = .returned v ∧ W'.ownsRow w.heap.size 9 1 v ((wordsB s).take most.toNat).length (((wordsB s).take most.toNat).map Value.string) ∧ Below w.heap.size w W' := by
  refine (callsIn_wide (n := 6)).1 ?_
  have hlen := wordsB_len s
  obtain ⟨i0, hi, hz0, hz1, hz2⟩ := info_parts info_str
  refine callsIn_of_wp_marks Tryd.func24 rfl trivial ?_ rfl
  simp only [Tryd.ntmps24, List.size_toArray, List.length_cons, List.length_nil, Nat.reduceAdd, Nat.reduceSub, Array.replicate_succ, Array.replicate_zero, List.push_toArray, List.append_toArray, List.nil_append, List.cons_append]
  gi_wp2_with (refine ⟨trivial, ?_⟩; gi_at_call 25; refine (wordsMk_in Fence.wide (6 - 1) trivial rfl s _).mono ?_; rintro e w' ⟨rfl, rfl⟩)
  have bM := Boxed.new w 3 (.int .i64 most)
  have bO := Boxed.new (w.alloc (.cells #[.int .i64 most] 3)) 39 (.slice none 0 0)
  have bS := Boxed.new ((w.alloc (.cells #[.int .i64 most] 3)).alloc (.cells #[.slice none 0 0] 39)) 9 (.string s)
  simp only [World.size_alloc] at bO bS
  have hB0 : Below w.heap.size w (((w.alloc (.cells #[.int .i64 most] 3)).alloc (.cells #[.slice none 0 0] 39)).alloc (.cells #[.string s] 9)) := (((Below.refl _ w).alloc (Nat.le_refl _) _).alloc (by simp) _).alloc (by simp; omega) _
  refine wpIn_rangeFunc_ownG rfl (by decide) (gf := 29) (lb := #[.pointer (some ⟨w.heap.size + 1 + 1, 0, none⟩)]) rfl trivial (enters_of Tryd.func29 (by kernel_rfl) rfl)
    (words_stops Fence.wide (6 - 1) trivial rfl (by decide) (w.heap.size + 1 + 1) s (by omega) _ (by simp) bS.cell) boxKept_t (boxKept_b (by simp)) (Below.refl _ _) (fun _ => rfl)
    (fun pre W => (((∃ v, Boxed W (w.heap.size + 1) 39 v ∧ W.ownsRow (w.heap.size + 3) 9 1 v pre.length (pre.map Value.string) ∧ True) ∧ Boxed W w.heap.size 3 (.int .i64 most)) ∧ Boxed W (w.heap.size + 1 + 1) 9 (.string s)) ∧ ((pre.length : Int) < most ∧ Below w.heap.size w W))
    (fun c pre W => (c = .exit 0 ∧ (pre.length : Int) = most) ∧ ((∃ v, Boxed W (w.heap.size + 1) 39 v ∧ W.ownsRow (w.heap.size + 3) 9 1 v pre.length (pre.map Value.string) ∧ True) ∧ Below w.heap.size w W))
    (OwnFrom.and (OwnFrom.and (OwnFrom.and (Own.from (holdsRow_own (w.heap.size + 3) (w.heap.size + 1) 39 9 1 (fun pre : List ByteArray => pre.length) (fun pre => pre.map Value.string) (fun _ _ => True)) _) (Own.from (boxed_own w.heap.size 3 (fun _ => .int .i64 most)) _)) (Own.from (boxed_own (w.heap.size + 1 + 1) 9 (fun _ => .string s)) _)) (OwnFrom.and (ownFrom_pure _ _) (ownFrom_below (Nat.le_refl _) (by simp; omega))))
    (fun c => OwnFrom.and (ownFrom_pure _ _) (OwnFrom.and (Own.from (holdsRow_own (w.heap.size + 3) (w.heap.size + 1) 39 9 1 (fun pre : List ByteArray => pre.length) (fun pre => pre.map Value.string) (fun _ _ => True)) _) (ownFrom_below (Nat.le_refl _) (by simp; omega))))
    ⟨⟨⟨⟨_, bO.alloc _, World.ownsRow_nil _ _ _ _, trivial⟩, (bM.alloc _).alloc _⟩, bS⟩, by simp; omega, hB0⟩
    (fun x => { tmps := #[.string s, .int .i64 most, undef, .pointer (some ⟨w.heap.size, 0, none⟩), .slice none 0 0, .pointer (some ⟨w.heap.size + 1, 0, none⟩), .string x, .int .i64 most, .bool (decide (most < 1)), .string s, .func (.func 29) #[] #[.pointer (some ⟨w.heap.size + 1 + 1, 0, none⟩)], .string x, undef, undef, undef, undef, undef, undef, undef, undef, undef], defers := [] }) ?assign ?body ?done ?stop
  case assign =>
    intro l x W K hK
    gi_wp2
    exact hK
  case body =>
    rintro l pre x W ⟨⟨⟨⟨v, hv, hrow, -⟩, hbm⟩, hbs⟩, hlt, hB⟩ hltN
    have hc := hv.cell
    have hsz : w.heap.size + 3 ≤ W.heap.size := by have := hbs.lt; omega
    gi_wp2_with (gi_at_builtin; refine wpListIn_append_own _ rfl _ _ 39 rfl (w.heap.size + 3) 9 i0 (.string ⟨#[]⟩) 1 16 Tryd.underlying39 hi hz0 hz1 hz2 rfl (by decide) _ _ _ rfl (hrow.alloc _) ⟨W.heap.size, 0, none⟩ 1 1 [.string x] rfl rfl (cell_one_new _ _ _) (by simp [Value.oneCell']) (by unfold maxLen; omega) (by omega) (by simp; omega) ?_; intro v' w1 hown' hgrow _; obtain ⟨g', cap', rfl⟩ := ownsRow_succ hown'; obtain ⟨hv1, hv2, hr2, hk2, hb2, hoth⟩ := appended3 (n₀ := w.heap.size) hv hrow hsz (by omega) (by omega) hown' hgrow; have hc1 := hv1.cell; have hf1 := hv1.frozen; have hbm2 := hoth _ _ _ hbm (by omega) (by omega); have hbs2 := hoth _ _ _ hbs (by omega) (by omega); have hcm2 := hbm2.cell; have hcv2 := hv2.cell)
    · have he : ((pre.length : Int) + 1 == most) = true := by assumption
      have he' : (pre.length : Int) + 1 = most := by simpa using he
      exact ⟨hk2.from _, ⟨rfl, by rw [List.length_append]; simpa using he'⟩, ⟨_, hv2, by simpa using hr2, trivial⟩, hB.trans hb2⟩
    · have he : ((pre.length : Int) + 1 == most) = false := by assumption
      have he' : ¬ (pre.length : Int) + 1 = most := by simpa using he
      exact ⟨hk2.from _, hbs2.cell.trans hbs.cell.symm, ⟨⟨⟨_, hv2, by simpa using hr2, trivial⟩, hbm2⟩, hbs2⟩, by rw [List.length_append]; simp; omega, hB.trans hb2⟩
  case done =>
    rintro D ys W hD rfl ⟨⟨⟨⟨v, hv, hrow, -⟩, hbm⟩, hbs⟩, hlt, hB⟩ hK
    have hc := hv.cell
    gi_wp2
    refine ⟨by simp, .inl ⟨_, _, rfl, run_takeDeferred hK, ?_⟩⟩
    rw [List.take_of_length_le (by omega)]
    exact ⟨_, results_tmp rfl _ _ _, v, rfl, ownsRow_mono (ownsRow_putObj hrow _ hK rfl) (by omega), hB.trans (belowK_b (w := w) (Nat.le_refl _) W D _ _ (by simp at hD; omega) hK rfl rfl)⟩
  case stop =>
    rintro D c pre W hD hpre ⟨⟨rfl, hlen'⟩, ⟨v, hv, hrow, -⟩, hB⟩ hK
    have hc := hv.cell
    gi_wp2
    refine ⟨by simp, .inl ⟨_, _, rfl, run_takeDeferred hK, ?_⟩⟩
    obtain ⟨r, hr⟩ := hpre
    rw [← hr, List.take_append_of_le_length (by omega), List.take_of_length_le (by omega)]
    exact ⟨_, results_tmp rfl _ _ _, v, rfl, ownsRow_mono (ownsRow_putObj hrow _ hK rfl) (by omega), hB.trans (belowK_b (w := w) (Nat.le_refl _) W D _ _ (by simp at hD; omega) hK rfl rfl)⟩

set_option maxHeartbeats 1000000 in
theorem words_none (s : ByteArray) (most : Int) (hm : most < 1) (w : World) :
    Calls Tryd.prog 24 #[.string s, .int .i64 most] w fun e W' => ∃ v, e = .returned v ∧ W'.ownsRow w.heap.size 9 1 v ((wordsB s).take most.toNat).length (((wordsB s).take most.toNat).map Value.string) ∧ Below w.heap.size w W' := by
  rw [show most.toNat = 0 by omega, List.take_zero]
  go_enter Tryd.func24, Tryd.ntmps24
  go_wp2
  go_ret
  exact ⟨_, rfl, World.ownsRow_nil _ _ _ _, ((Below.refl _ w).alloc (Nat.le_refl _) _).alloc (by simp) _⟩
theorem words_any (s : ByteArray) (hs : s.size ≤ 5000) (most : Int) (w : World) :
    Calls Tryd.prog 24 #[.string s, .int .i64 most] w fun e W' => ∃ v, e = .returned v ∧ W'.ownsRow w.heap.size 9 1 v ((wordsB s).take most.toNat).length (((wordsB s).take most.toNat).map Value.string) ∧ Below w.heap.size w W' := by
  by_cases hm : 1 ≤ most
  · exact words_pos s hs most hm w
  · exact words_none s most (by omega) w
end Go.Proofs.YtpoidlmemoocmaaDoor
