/- Rows of entries that are put together, by slices.Concat, as package table asks it. Conditions: at most 50000 entries. -/
import Derived.Test.YthfkcbnabnmnjaaGreatDoorG25Joined
namespace Go.Proofs.YthfkcbnabnmnjaaGreatDoor
open Go.RowKit

theorem cut_nil (w : World) : (Instr.sliceAt 185 (.slice none 0 0) none (some (.int .i64 0)) none).run Tryz.prog w = .ok (.slice none 0 0) w := by go_simp
set_option maxRecDepth 100000 in
set_option maxHeartbeats 2000000 in
theorem sgrow_any (n : Nat) (hn : n ≤ 100000) (w : World) : Calls Tryz.prog 155 #[.slice none 0 0, .int .i64 (n : Nat)] w fun e w' => ∃ v, e = .returned v ∧ w'.ownsRow w.heap.size 188 2 v 0 [] ∧ w.grownBy w' none := by
  by_cases h0 : n = 0
  · subst h0
    go_enter Tryz.func155, Tryz.ntmps155
    go_wp2
    go_ret
    exact ⟨_, rfl, World.ownsRow_nil _ _ _ _, gr_refl _ _⟩
  · obtain ⟨i0, hi0, hz0, hz1, hz2⟩ := info_parts info_entry
    have hr := Lib.run_append_nil_zeros (P := Tryz.prog) w 185 3 185 188 i0 (.agg #[.string ⟨#[]⟩, .pointer none]) .i64 .i64 Tryz.underlying185 Tryz.underlying3 hi0 hz0 n (by omega) (by omega) (by omega) (by rw [hz2]; omega)
    have hG1 := grownCap_ge w n 0 188
    have hG2 := grownCap_le_maxLen w n 0 188 (by unfold maxLen; omega)
    obtain ⟨G, hG⟩ : ∃ G, grownCap w n 0 188 = G := ⟨_, rfl⟩
    rw [hG] at hr hG1 hG2
    obtain ⟨cs, hcs⟩ : ∃ cs, Builtin.zeroCells (Value.agg #[.string ⟨#[]⟩, .pointer none]).cells n ++ Builtin.zeroCells (Value.agg #[.string ⟨#[]⟩, .pointer none]).cells (G - n) = cs := ⟨_, rfl⟩
    have hsz : cs.size = G * 2 := by
      rw [← hcs, Array.size_append, size_zeroCells, size_zeroCells]
      show n * 2 + (G - n) * 2 = G * 2
      omega
    rw [hcs] at hr
    have HO : Hid ((w.drew.alloc (.cells cs 188)).ownsRow w.heap.size 188 2 (.slice (some ⟨w.heap.size, 0, none⟩) 0 G) 0 []) :=
      ⟨rfl, .inr ⟨_, G, cs, rfl, Nat.le_refl _, World.alloc_heap_new w.drew _, Nat.zero_le _, hG2, hsz, rfl⟩⟩
    have hgr : w.grownBy (w.drew.alloc (.cells cs 188)) none := gr_trans (b := w.drew) ⟨rfl, rfl, rfl, Nat.le_refl _, fun _ _ _ => rfl⟩ (World.grownBy_alloc _ _ none)
    have HR := hide hr
    have hc := cut_nil w
    have e1 : wrap64 ((n : Int) - 0) = (n : Int) := by unfold wrap64; omega
    have hpos : (0 : Int) < (n : Int) := by omega
    have hGi : G ≤ 9223372036854775807 := hG2
    clear hr hcs hsz hG hi0 hz0 hz1 hz2 h0
    go_enter Tryz.func155, Tryz.ntmps155
    go_wp2_with (at_builtin; refine Lib.wpList_append_run _ rfl _ _ _ _ rfl _ _ rfl rfl _ _ HR.out ?_)
    go_ret
    exact ⟨_, rfl, HO.out, hgr⟩
/-- A slice of rows of entries, and what they have, one behind the other. -/
structure CatArg (W : World) (va : Value) (n : Nat) (f : Nat → Value) (L : Nat → List Kv) : Prop where
  row : W.ownsRow 0 185 1 va n (refs n f)
  each : ∀ i, i < n → rowE W (f i) (L i)
  few : (flatN n L).length ≤ 50000
  most : n ≤ 50000
theorem CatArg.step {W W' : World} {va : Value} {n : Nat} {f : Nat → Value} {L : Nat → List Kv} (h : CatArg W va n f L) (hg : W.grownBy W' none) : CatArg W' va n f L := ⟨row_grown h.row hg, fun i hi => row_grown (h.each i hi) hg, h.few, h.most⟩
theorem flat_le {n j : Nat} {L : Nat → List Kv} (h : j ≤ n) : (flatN j L).length ≤ (flatN n L).length := by
  induction n with
  | zero =>
    obtain rfl : j = 0 := by omega
    exact Nat.le_refl _
  | succ n ih =>
    by_cases e : j = n + 1
    · rw [e]
      exact Nat.le_refl _
    · rw [flat_succ, List.length_append]
      exact Nat.le_trans (ih (by omega)) (Nat.le_add_right _ _)
theorem rowNewT {w wr w' : World} {v : Value} {n : Nat} {xs : List Value} (hg : w.grownBy wr none) (hr : wr.ownsRow w.heap.size 188 2 v n xs) (hg' : wr.grownBy w' v.ownBlock) : w.grownBy w' none := by
  cases hb : v.ownBlock with
  | none =>
    rw [hb] at hg'
    exact gr_trans hg hg'
  | some k =>
    rw [hb] at hg'
    exact gr_new hg hg' (own_at hr hb).1
set_option maxRecDepth 100000 in
set_option maxHeartbeats 4000000 in
theorem concat_any {w : World} {va : Value} {n : Nat} {f : Nat → Value} {L : Nat → List Kv} (h : CatArg w va n f L) :
    Calls Tryz.prog 119 #[va] w fun e w' => ∃ v, e = .returned v ∧ w'.ownsRow w.heap.size 188 2 v (flatN n L).length (enV (flatN n L)) ∧ w.grownBy w' none := by
  obtain ⟨a, cap, rfl⟩ := own_shape h.row
  have H := hide h
  have hfew := h.few
  have hmost := h.most
  have HG := hide (fun W => sgrow_any (flatN n L).length (by omega) W)
  have HJ : Hid (∀ j, j ≤ n → (flatN j L).length ≤ (flatN n L).length) := fun j hj => flat_le hj
  clear h
  go_enter Tryz.func119, Tryz.ntmps119
  go_wp2
  go_loopw [3, 5, 11] (fun s _ i wr => ∃ j : Nat, j ≤ n ∧ i = .int .i64 j ∧ s = .int .i64 ((flatN j L).length : Nat) ∧ w = wr) (fun _ _ i _ => n - (intOf i).toNat)
  case atStart => exact ⟨0, Nat.zero_le _, rfl, rfl, rfl⟩
  case round =>
    obtain ⟨j, hj, rfl, rfl, rfl⟩ := hrel
    by_cases hlt : j < n
    · have hji : (j : Int) < (n : Int) := by omega
      obtain ⟨g, cap', e⟩ := own_form H.out.row (by omega)
      cases e
      obtain ⟨c1, -⟩ := ar_cell H.out.row hlt
      obtain ⟨a2, c2, hf⟩ := own_shape (H.out.each j hlt)
      rw [hf] at c1
      have hs : (flatN (j + 1) L).length = (flatN j L).length + (L j).length := by rw [flat_succ, List.length_append]
      have hle := HJ.out (j + 1) hlt
      have HS := hide hs
      rw [hs] at hle
      obtain ⟨x, hx⟩ : ∃ x, (flatN j L).length = x := ⟨_, rfl⟩
      obtain ⟨y, hy⟩ : ∃ y, (L j).length = y := ⟨_, rfl⟩
      rw [hx, hy] at hle HS
      rw [hy] at c1
      rw [hx]
      have e1 : wrap64 ((x : Int) + (y : Int)) = (x : Int) + (y : Int) := by unfold wrap64; omega
      have e2 : ¬ ((x : Int) + (y : Int)) < 0 := by omega
      clear hs hx hy hf
      go_wp2
      go_roundw
      case rel => exact ⟨j + 1, hlt, by go_num, by rw [HS.out]; rfl, by first | trivial | rfl⟩
      case measure => simp [intOf]; omega
    · obtain rfl : j = n := by omega
      clear hlt
      go_wp2_with (go_at_call 155; refine (HG.out _).mono ?_; rintro e w1 ⟨v0, rfl, hr0, hg0⟩; replace hr0 := hide hr0)
      go_loopw [6, 8, 27] (fun v _ i wr => ∃ j2 : Nat, j2 ≤ j ∧ i = .int .i64 j2 ∧ Hid (wr.ownsRow w.heap.size 188 2 v (flatN j2 L).length (enV (flatN j2 L))) ∧ Hid (w.grownBy wr none)) (fun _ _ i _ => j - (intOf i).toNat)
      case atStart => exact ⟨0, Nat.zero_le _, rfl, hr0, hg0⟩
      case round =>
        obtain ⟨j2, hj2, rfl, hr, hg⟩ := hrel
        clear hr0 hg0
        by_cases hlt : j2 < j
        · have hji : (j2 : Int) < (j : Int) := by omega
          have HC := H.out.step hg.out
          obtain ⟨g, cap', e⟩ := own_form HC.row (by omega)
          cases e
          obtain ⟨c1, -⟩ := ar_cell HC.row hlt
          have hs : flatN (j2 + 1) L = flatN j2 L ++ L j2 := flat_succ _ _
          have hle := HJ.out (j2 + 1) hlt
          have HS := hide hs
          rw [hs, List.length_append] at hle
          obtain ⟨v', w2, hrun, ho2, hg2, hat⟩ := run_append_en _ w.heap.size 185 hr.out (HC.each j2 hlt) (by omega) hg.out.size
          have HR := hide hrun
          have HG2 := hide (rowNewT hg.out hr.out hg2)
          have HO2 : Hid (w2.ownsRow w.heap.size 188 2 v' (flatN (j2 + 1) L).length (enV (flatN (j2 + 1) L))) := by
            show World.ownsRow _ _ _ _ _ _ _
            rw [hs, List.length_append, enV_app]
            exact ho2
          clear hrun ho2 hg2 hat hs HC hle
          go_wp2_with (at_builtin; refine Lib.wpList_append_run _ rfl _ _ _ _ rfl _ _ rfl rfl _ _ HR.out ?_)
          go_roundw
          case rel => exact ⟨j2 + 1, hlt, by go_num, HO2, HG2⟩
          case measure => simp [intOf]; omega
        · obtain rfl : j2 = j := by omega
          clear hlt
          go_wp2
          go_ret
          exact ⟨_, rfl, hr.out, hg.out⟩
end Go.Proofs.YthfkcbnabnmnjaaGreatDoor
