/- The document's own sketch, when a text is counted. Conditions: texts take at most 140737488351232 bytes. -/
import Derived.Test.YtpjmhiokhoplmaaSketchRef
import Derived.BigRegion
namespace Go.Proofs.Ytpjmhiokhoplmaa
open Go.RowKit

/-- What the document's sketch writes. -/
def Own2 (c g : Nat) : Nat → Prop := fun k => k = c ∨ k = g
theorem cells_setI (C : List Nat) (p y : Nat) : (cellsI C).setIfInBounds p (.int .i64 (y : Int)) = cellsI (C.set p y) := by
  unfold cellsI
  rw [List.setIfInBounds_toArray, List.map_set]
theorem gr_setCell (F : Nat → Prop) (w : World) (b o : Nat) (v : Value) (h : F b) : Gr F w (w.setCell ⟨b, o, none⟩ v) :=
  ⟨rfl, rfl, rfl, by simp [World.setCell], fun k _ hk => Below.heap_setCell _ _ _ k (fun e => hk (by rw [e]; exact h))⟩
theorem gr_drewW (F : Nat → Prop) (w : World) : Gr F w w.drew := ⟨rfl, rfl, rfl, Nat.le_refl _, fun _ _ _ => rfl⟩
theorem RSk.setRow {w : World} {c g sd : Nat} {st : St} (h : RSk w c g sd st) (p y : Nat) : RSk (w.setCell ⟨g, p, none⟩ (.int .i64 (y : Int))) c g sd (st.1.set p y, st.2) :=
  ⟨(heap_setCell_other _ _ _ _ h.ne).trans h.head, by rw [heap_setCell_same w g p _ _ _ h.row, cells_setI], by rw [List.length_set]; exact h.len, h.ne⟩
theorem RSk.setAge {w : World} {c g sd : Nat} {st : St} (h : RSk w c g sd st) (a : Nat) : RSk (w.setCell ⟨c, 2, none⟩ (.int .i64 (a : Int))) c g sd (st.1, a) :=
  ⟨heap_setCell_same w c 2 _ _ _ h.head, (heap_setCell_other _ _ _ _ (Ne.symm h.ne)).trans h.row, h.len, h.ne⟩
theorem RSk.drew {w : World} {c g sd : Nat} {st : St} (h : RSk w c g sd st) : RSk w.drew c g sd st := ⟨h.head, h.row, h.len, h.ne⟩
theorem incs_take (C : List Nat) (sd : Nat) (l : List UInt8) (k : Nat) (h : k < 4) : incs C ((plcs sd l).take (k + 1)) = inc (incs C ((plcs sd l).take k)) (plc sd l k) := by
  unfold incs
  rw [take_plcs sd l k h, List.foldl_append]
  rfl
/-- The first k counters halved. -/
def halfTo (C : List Nat) (k : Nat) : List Nat := (C.take k).map (· / 2) ++ C.drop k
theorem half_get2 (C : List Nat) (k : Nat) (h : k < C.length) : (halfTo C k).getD k 0 = C.getD k 0 := by
  unfold halfTo
  have hl : ((C.take k).map (· / 2)).length = k := by rw [List.length_map, List.length_take]; omega
  simp only [List.getD]
  rw [List.getElem?_append_right (by omega), hl, Nat.sub_self, List.getElem?_drop, Nat.add_zero]
theorem half_succ (C : List Nat) (k : Nat) (h : k < C.length) : (halfTo C k).set k (C.getD k 0 / 2) = halfTo C (k + 1) := by
  have hl : ((C.take k).map (· / 2)).length = k := by rw [List.length_map, List.length_take]; omega
  unfold halfTo
  rw [List.set_append_right _ _ (by omega), hl, Nat.sub_self, List.drop_eq_getElem_cons h, List.set_cons_zero, List.take_succ_eq_append_getElem h, List.map_append, List.append_assoc]
  simp [List.getD, List.getElem?_eq_getElem h]
theorem half_all (C : List Nat) (k : Nat) (h : C.length ≤ k) : halfTo C k = C.map (· / 2) := by
  unfold halfTo
  rw [List.take_of_length_le h, List.drop_of_length_le h, List.append_nil]
theorem quo_two (x : Nat) (h : x ≤ 15) : ((x : Int) / 2) = ((x / 2 : Nat) : Int) ∧ (x : Int).tdiv 2 = ((x / 2 : Nat) : Int) ∧ Value.int .i64 (IntKind.i64.wrap ((x / 2 : Nat) : Int)) = .int .i64 ((x / 2 : Nat) : Int) := by
  have h1 : ((x : Int) / 2) = ((x / 2 : Nat) : Int) := by omega
  have h2 : x / 2 < 9223372036854775808 := by omega
  have h3 : ∀ n : Nat, n < 9223372036854775808 → IntKind.i64.wrap (n : Int) = (n : Int) := fun n hn => by
    simp [IntKind.wrap, IntKind.bits, IntKind.signed]
    omega
  exact ⟨h1, by rw [Int.tdiv_eq_ediv_of_nonneg (by omega)]; exact h1, by rw [h3 _ h2]⟩

set_option maxRecDepth 100000 in
set_option maxHeartbeats 4000000 in
theorem raddK_any {w : World} {c g sd : Nat} {st : St} (hR : RSk w c g sd st) (hG : GoodK st) (s : ByteArray) (hs : s.size ≤ 140737488351232) :
    Calls Try.prog 28 #[.pointer (some ⟨c, 0, none⟩), .string s] w fun e w' => e = .returned (.bool (halved st)) ∧ RSk w' c g sd (addK sd st s.data.toList) ∧ Gr (Own2 c g) w w' := by
  have hage := hG.age
  go_enter Try.func28, Try.ntmps28
  go_wp2
  go_loopw [5] (fun i wr => ∃ (k : Nat) (C : List Nat), k ≤ 4 ∧ i = .int .i64 k ∧ Hid (C = incs st.1 ((plcs sd s.data.toList).take k)) ∧ RSk wr c g sd (C, st.2) ∧ Gr (Own2 c g) w wr) (fun i _ => 4 - (intOf i).toNat)
  case atStart => exact ⟨0, st.1, by omega, rfl, rfl, hR, Gr.refl _ _⟩
  case round =>
    clear hR
    obtain ⟨k, C, hk, rfl, HC, hR, hgr⟩ := hrel
    have hle : ∀ x ∈ C, x ≤ 15 := by rw [HC.out]; exact incs_le _ _ hG.le
    by_cases hlt : k < 4
    · have hp := plc_lt sd s.data.toList k hlt
      have hsl := hR.slice
      have hat := hR.at _ hp
      have HP := hide (rplace_any hR s hs k hlt)
      have HS : Hid (inc C (plc sd s.data.toList k) = incs st.1 ((plcs sd s.data.toList).take (k + 1))) := by
        show _ = _
        rw [incs_take _ _ _ _ hlt, ← HC.out]
      generalize plc sd s.data.toList k = p at *
      have hx15 := get_le hle p
      have hfr := hR.freeRow p
      have hpi : (p : Int) < 256 := by omega
      unfold inc at HS
      by_cases hx : C.getD p 0 < 15
      · rw [if_pos hx] at HS
        have hR2 := hR.setRow p (C.getD p 0 + 1)
        have hg2 := hgr.trans (gr_setCell (Own2 c g) _ g p (.int .i64 ((C.getD p 0 + 1 : Nat) : Int)) (.inr rfl))
        have hsl2 := hR2.slice
        have hxi : ((C.getD p 0 : Nat) : Int) < 15 := by omega
        have ec : (((C.getD p 0 : Nat) + 1 : Nat) : Int) = ((C.getD p 0 : Nat) : Int) + 1 := by omega
        rw [ec] at hR2 hg2
        clear ec HC hle hp
        generalize C.getD p 0 = x at *
        go_wp2_with (go_at_call 41; refine HP.out.mono ?_; rintro e w1 ⟨rfl, rfl⟩)
        go_roundw
        case rel => exact ⟨k + 1, _, by omega, by go_num, HS, hR2, hg2⟩
        case measure => simp [intOf]; omega
      · rw [if_neg hx] at HS
        have hxi : (15 : Int) ≤ ((C.getD p 0 : Nat) : Int) := by omega
        clear HC hle hp
        generalize C.getD p 0 = x at *
        go_wp2_with (go_at_call 41; refine HP.out.mono ?_; rintro e w1 ⟨rfl, rfl⟩)
        go_roundw
        case rel => exact ⟨k + 1, _, by omega, by go_num, HS, hR, hgr⟩
        case measure => simp [intOf]; omega
    · obtain rfl : k = 4 := by omega
      have HC4 : Hid (C = incs st.1 (plcs sd s.data.toList)) := HC.out
      have hca := hR.age
      have hfa := hR.free
      have hR2 := hR.setAge (st.2 + 1)
      have hg2 := hgr.trans (gr_setCell (Own2 c g) _ c 2 (.int .i64 ((st.2 + 1 : Nat) : Int)) (.inl rfl))
      have ec : ((st.2 + 1 : Nat) : Int) = (st.2 : Int) + 1 := by omega
      rw [ec] at hR2 hg2
      clear ec HC
      cases hh : halved st with
      | false =>
        have ha : st.2 + 1 < 640 := by
          simp only [halved, decide_eq_false_iff_not] at hh
          omega
        have hai : (st.2 : Int) + 1 < 640 := by omega
        have HA : Hid (addK sd st s.data.toList = (C, st.2 + 1)) := by
          show _ = _
          unfold addK
          rw [hh, HC4.out]
          rfl
        have HH := hide hh
        clear hh ha
        go_wp2
        go_ret
        exact ⟨by rw [HH.out]; rfl, by rw [HA.out]; exact hR2, hg2⟩
      | true =>
        have ha : 640 ≤ st.2 + 1 := by
          simp only [halved, decide_eq_true_eq] at hh
          exact hh
        have hai : (640 : Int) ≤ (st.2 : Int) + 1 := by omega
        have HA : Hid (addK sd st s.data.toList = (C.map (· / 2), 320)) := by
          show _ = _
          unfold addK
          rw [hh, HC4.out]
          rfl
        have hl256 : C.length = 256 := hR.len
        have HL := hide hl256
        have HH := hide hh
        have hle2 := hide hle
        clear hh ha hl256 hle
        go_wp2
        rename_i z1 z2 z3 z4 z5 z6
        clear z4 hca hfa hR hgr hai
        go_loopw [7] (fun i wr => ∃ k : Nat, k ≤ 256 ∧ i = .int .i64 k ∧ RSk wr c g sd (halfTo C k, st.2 + 1) ∧ Gr (Own2 c g) w wr) (fun i _ => 256 - (intOf i).toNat)
        case atStart => exact ⟨0, by omega, rfl, hR2, hg2⟩
        case round =>
          clear hR2 hg2
          obtain ⟨k, hk, rfl, hR, hgr⟩ := hrel
          by_cases hlt : k < 256
          · have hkl : k < C.length := by rw [HL.out]; exact hlt
            have hsl := hR.slice
            have hat := hR.at k hlt
            have hfr := hR.freeRow k
            have hx15 := get_le hle2.out k
            have hR2 := (hR.setRow k (C.getD k 0 / 2)).drew
            have hg2 := (hgr.trans (gr_setCell (Own2 c g) _ g k (.int .i64 ((C.getD k 0 / 2 : Nat) : Int)) (.inr rfl))).trans (gr_drewW _ _)
            simp only at hat hR2
            rw [half_get2 C k hkl] at hat
            rw [half_succ C k hkl] at hR2
            obtain ⟨q1, q2, q3⟩ := quo_two (C.getD k 0) hx15
            have hki : (k : Int) < 256 := by omega
            have hix := index_row g k hki
            generalize C.getD k 0 / 2 = y at *
            generalize C.getD k 0 = x at *
            clear hkl hR hgr hx15 hle2
            go_wp2
            go_region
            go_wp2
            go_roundw
            case rel => exact ⟨k + 1, by omega, by go_num, hR2, hg2⟩
            case measure => simp [intOf]; omega
          · obtain rfl : k = 256 := by omega
            have hsl := hR.slice
            have hca := hR.age
            have hfa := hR.free
            have hR2 := hR.setAge 320
            have hg2 := hgr.trans (gr_setCell (Own2 c g) _ c 2 (.int .i64 ((320 : Nat) : Int)) (.inl rfl))
            simp only at hR2
            rw [half_all C 256 (by rw [HL.out]; exact Nat.le_refl _)] at hR2
            clear hR hgr
            go_wp2
            go_ret
            exact ⟨by rw [HH.out]; rfl, by rw [HA.out]; exact hR2, hg2⟩
end Go.Proofs.Ytpjmhiokhoplmaa
