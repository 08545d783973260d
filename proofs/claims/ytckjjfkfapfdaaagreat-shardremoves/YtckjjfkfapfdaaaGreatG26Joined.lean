/- What Has of package bloom answers. Conditions: the text takes at most 300 bytes. What Add of package bloom does, and with it all of the package's contracts. Conditions: the text takes at most 300 bytes. What the sketch is in memory, two counters in a byte, and what New, Copy, Age, shift and counter come to in package sketch. Conditions: none. -/
import Derived.Test.YtckjjfkfapfdaaaGreatG25Joined
import Derived.Test.YtckjjfkfapfdaaaGreatG07Joined
import Derived.Test.YtckjjfkfapfdaaaGreatG00Joined
import Derived.Test.YtckjjfkfapfdaaaGreatG22Joined
import Derived.Laws.Tables
import Derived.Laws.Rows
import Derived.Laws.CopyRow
import Derived.Deep.MidRow
import Derived.Deep.WholeRow
namespace Go.Proofs.YtckjjfkfapfdaaaGreat
open Go.RowKit Go.Shelf
attribute [local go_sem] Oper.semAt_some

theorem boxes4h (w : World) (v : Value) (s : ByteArray) : ∃ V, (((w.alloc (.cells #[v] 122)).alloc (.cells #[.bool false] 4)).alloc (.cells #[v] 122)).alloc (.cells #[.string s] 9) = V ∧
    Boxed V w.heap.size 122 v ∧ Boxed V (w.heap.size + 1) 4 (.bool false) ∧ Boxed V (w.heap.size + 1 + 1) 122 v ∧ Boxed V (w.heap.size + 1 + 1 + 1) 9 (.string s) ∧ V.heap.size = w.heap.size + 4 ∧ w.grownBy V none := by
  refine ⟨_, rfl, ?_⟩
  have b0 := Boxed.new w 122 v
  have b1 := Boxed.new (w.alloc (.cells #[v] 122)) 4 (.bool false)
  have b2 := Boxed.new ((w.alloc (.cells #[v] 122)).alloc (.cells #[.bool false] 4)) 122 v
  have b3 := Boxed.new (((w.alloc (.cells #[v] 122)).alloc (.cells #[.bool false] 4)).alloc (.cells #[v] 122)) 9 (.string s)
  simp only [World.size_alloc] at b1 b2 b3
  exact ⟨((b0.alloc _).alloc _).alloc _, (b1.alloc _).alloc _, b2.alloc _, b3, by simp only [World.size_alloc], gr_trans (gr_trans (gr_trans (World.grownBy_alloc _ _ _) (World.grownBy_alloc _ _ _)) (World.grownBy_alloc _ _ _)) (World.grownBy_alloc _ _ _)⟩

/-- A filter's word that holds a place, and the seed's cell. -/
theorem fil_word {w : World} {b sd : Nat} {S : List Nat} (h : Fil0 w b sd S) (p : Nat) (hp : p < 512) : ∃ x : Nat, w.cell? ⟨b, 1 + p / 64, none⟩ = some (.int .u64 x) ∧ x < 18446744073709551616 ∧ (x &&& 2 ^ (p % 64) = 0 ↔ ¬ p ∈ S) := by
  obtain ⟨ws, h1, _, _, h4⟩ := h
  have hl : p / 64 < ws.length := by rw [h1.len]; omega
  have hg : ws.getD (p / 64) 0 = ws[p / 64] := by simp [List.getD, List.getElem?_eq_getElem hl]
  refine ⟨ws.getD (p / 64) 0, ?_, ?_, bits_and h1 p hp⟩
  · rw [cell_of_row w b _ _ _ _ h4, hg]
    simp [cellsF, Nat.add_comm 1, hl]
  · rw [hg]
    exact h1.lt _ (List.getElem_mem hl)
theorem fil_seed {w : World} {b sd : Nat} {S : List Nat} (h : Fil0 w b sd S) : w.cell? ⟨b, 0, none⟩ = some (.int .u64 sd) := by
  obtain ⟨ws, _, _, _, h4⟩ := h
  rw [cell_of_row w b _ _ _ _ h4]
  rfl
theorem has_all3 {S : List Nat} {sd : Nat} {l : List UInt8} (h : ∀ k ∈ List.range 3, placeN sd l k ∈ S) : hasS S (pls sd l) = true := by
  refine (hasS_iff _ _).2 fun p hp => ?_
  have : pls sd l = (List.range 3).map (placeN sd l) := rfl
  rw [this] at hp
  obtain ⟨k, hk, rfl⟩ := List.mem_map.1 hp
  exact h k hk
theorem has_not3 {S : List Nat} {sd : Nat} {l : List UInt8} {pre : List Nat} (hp : pre <+: List.range 3) (h : ∃ k ∈ pre, ¬ placeN sd l k ∈ S) : hasS S (pls sd l) = false := by
  obtain ⟨k, hk, hn⟩ := h
  cases e : hasS S (pls sd l) with
  | false => rfl
  | true =>
    have := (hasS_iff _ _).1 e (placeN sd l k) (by
      have e2 : pls sd l = (List.range 3).map (placeN sd l) := rfl
      rw [e2]
      exact List.mem_map_of_mem (hp.subset hk))
    exact (hn this).elim

/-- The address of a word of a filter. -/
theorem index_at (b q : Nat) (h : q < 8) (W : World) : (Instr.indexAt 156 (.pointer (some ⟨b, 1, none⟩)) (.int .i64 (q : Int))).run Tryz.prog W = .ok (.pointer (some ⟨b, 1 + q, none⟩)) W := by
  have h8 : q = 0 ∨ q = 1 ∨ q = 2 ∨ q = 3 ∨ q = 4 ∨ q = 5 ∨ q = 6 ∨ q = 7 := by omega
  clear h
  rcases h8 with rfl | rfl | rfl | rfl | rfl | rfl | rfl | rfl <;> (show _ = _; kernel_rfl)
theorem quo_word (p : Nat) (h : p < 512) : ((p : Int) / 64) = ((p / 64 : Nat) : Int) ∧ (p : Int).tdiv 64 = ((p / 64 : Nat) : Int) ∧ Value.int .i64 (IntKind.i64.wrap ((p / 64 : Nat) : Int)) = .int .i64 ((p / 64 : Nat) : Int) ∧ p / 64 < 8 := by
  have h1 : ((p : Int) / 64) = ((p / 64 : Nat) : Int) := by omega
  have h2 : p / 64 < 8 := by omega
  refine ⟨h1, by rw [Int.tdiv_eq_ediv_of_nonneg (by omega)]; exact h1, by rw [wrap_nat _ (Nat.lt_trans h2 (by decide))], h2⟩
set_option maxRecDepth 100000 in
set_option maxHeartbeats 4000000 in
theorem fil_has {w : World} {b sd : Nat} {S : List Nat} (hF : Fil0 w b sd S) (s : ByteArray) (hs : s.size ≤ 300) : Calls Tryz.prog 106 #[.pointer (some ⟨b, 0, none⟩), .string s] w fun e w' => e = .returned (.bool (hasS S (pls sd s.data.toList))) ∧ Fil0 w' b sd S ∧ w.grownBy w' none := by
  refine (callsIn_wide (n := 6)).1 ?_
  have hlt := fil_lt hF
  refine callsIn_of_wp_marks Tryz.func106 rfl trivial ?_ rfl
  simp only [Tryz.ntmps106, List.size_toArray, List.length_cons, List.length_nil, Nat.reduceAdd, Nat.reduceSub, Array.replicate_succ, Array.replicate_zero, List.push_toArray, List.append_toArray, List.nil_append, List.cons_append]
  gi_wp2_with (refine ⟨trivial, ?_⟩; gi_at_call 107; refine (placesMk_in (6 - 1) b s _).mono ?_; rintro e w1 ⟨rfl, rfl⟩)
  obtain ⟨W0, hW0, bf, br, bf2, bs, sz0, hg0⟩ := boxes4h w (.pointer (some ⟨b, 0, none⟩)) s
  rw [hW0]
  clear hW0
  have hRB : w.heap.size + 1 < W0.heap.size := by rw [sz0]; exact Nat.add_lt_add_left (by decide) _
  have hF0 := fil_keep hF (hg0.block b hlt (by simp))
  refine range_own rfl (by decide) (gf := 133) (lb := #[.pointer (some ⟨w.heap.size + 1 + 1, 0, none⟩), .pointer (some ⟨w.heap.size + 1 + 1 + 1, 0, none⟩)]) rfl trivial (enters_of Tryz.func133 (by kernel_rfl) rfl)
    (places_own _ _ b sd s (Nat.le_trans hs (by decide)) W0 bf2.cell bs.cell (fil_seed hF0)) (Below.refl _ _) (fun _ => rfl)
    (fun pre V => (Boxed V w.heap.size 122 (.pointer (some ⟨b, 0, none⟩)) ∧ Boxed V (w.heap.size + 1) 4 (.bool false)) ∧ ((∀ k ∈ pre, placeN sd s.data.toList k ∈ S) ∧ w.grownBy V none))
    (fun c pre V => (c = .ret ∧ ∃ k ∈ pre, ¬ placeN sd s.data.toList k ∈ S) ∧ (Boxed V (w.heap.size + 1) 4 (.bool false) ∧ w.grownBy V none))
    (OwnFrom.and (OwnFrom.and (Own.from (boxed_own _ _ (fun _ => _)) _) (Own.from (boxed_own _ _ (fun _ => _)) _)) (OwnFrom.and (ownFrom_pure _ _) (own_grown hg0.size)))
    (fun c => OwnFrom.and (ownFrom_pure _ _) (OwnFrom.and (Own.from (boxed_own _ _ (fun _ => _)) _) (own_grown hg0.size)))
    ⟨⟨bf, br⟩, (fun k hk => (List.not_mem_nil hk).elim), hg0⟩ ?a1 ?assign ?body ?done ?stop
  case assign =>
    intro l2 x V K hK
    unfold plV
    gi_wp2
    exact hK
  case body =>
    rintro l2 pre x V ⟨⟨hbf, hbr⟩, hall, hg⟩ hlen
    have hFV := fil_keep hF (hg.block b hlt (by simp))
    have hp := place_lt sd s.data.toList x
    obtain ⟨y, hcy, hy, hmem⟩ := fil_word hFV (placeN sd s.data.toList x) hp
    have hcf := hbf.cell
    have hcr := hbr.cell
    have hfr := hbr.frozen
    have hmix : Tryz.prog.follows .mixedOrders = true := by kernel_rfl
    have hB := bit_any (placeN sd s.data.toList x) hp
    generalize hP : placeN sd s.data.toList x = p at *
    have hm := two_pow_lt (Nat.mod_lt p (by decide))
    generalize 2 ^ (p % 64) = m at *
    obtain ⟨hq, hqt, hqw, hq8⟩ := quo_word p hp
    have hix := index_at b _ hq8
    generalize p / 64 = q at *
    clear hq8
    have E : Value.int .u64 (bits .and .u64 (y : Int) (m : Int)) = .int .u64 ((y &&& m : Nat) : Int) := by rw [u64_and_nat y m hy hm]
    generalize y &&& m = z at *
    clear hm hy
    have HC : ∀ k : Nat, CallsIn Fence.wide (4 - 1) Tryz.prog 108 #[.int .i64 p] (V.drewN k) fun e w' => e = .returned (.int .u64 (m : Int)) ∧ w' = V.drewN k := fun k => (callsIn_wide.2 (hB _)).mono fun e w' h => ⟨h.1, h.2.symm⟩
    clear hB
    have hwf : ∀ f, Fence.wide.fn f := fun _ => trivial
    by_cases hz : z = 0
    · have hnot := hide (hmem.1 hz)
      subst hz
      clear hmem
      gi_wp2
      refine region_tail 10 _ l2 rfl rfl (by kernel_rfl) (by kernel_rfl) ?_
      simp only [List.take_succ_cons, List.take_zero]
      repeat (gi_big_quiet_step ((gi_at_call 108; exact CallsIn.quiet_of_same (HC _))))
      refine wpQuietIn_nil ?_
      rintro _ ⟨nq, rfl⟩
      go_simp
      gi_wp2
      refine ⟨(since_drewN _ V nq).trans (since_set _ _ hRB), ⟨rfl, x, List.mem_append_right _ (List.mem_singleton.2 rfl), ?_⟩, Boxed.set _ (show Boxed (V.drewN nq) _ _ _ from hbr), gr_new (gr_drewN hg nq) (grownBy_setCell' _ _ _) (Nat.le_succ _)⟩
      rw [hP]
      exact hnot.out
    · have hin := hide (Decidable.not_not.1 fun hn => hz (hmem.2 hn))
      have hzb : ((z : Int) == 0) = false := nat_beq hz
      clear hmem hz
      gi_wp2
      refine region_tail 10 _ l2 rfl rfl (by kernel_rfl) (by kernel_rfl) ?_
      simp only [List.take_succ_cons, List.take_zero]
      repeat (gi_big_quiet_step ((gi_at_call 108; exact CallsIn.quiet_of_same (HC _))))
      refine wpQuietIn_nil ?_
      rintro _ ⟨nq, rfl⟩
      go_simp
      gi_wp2
      refine ⟨since_drewN _ V nq, ⟨hbf, hbr⟩, fun k hk => ?_, gr_drewN hg nq⟩
      rcases List.mem_append.1 hk with h1 | h1
      · exact hall k h1
      · rw [List.mem_singleton.1 h1, hP]
        exact hin.out
  case done =>
    rintro D ys V hD rfl ⟨⟨hbf, hbr⟩, hall, hg⟩ hK
    have hcr := hbr.cell
    have hfr := hbr.frozen
    obtain ⟨l1, l2, l3⟩ := last_store (b := true) hbr (Nat.le_trans hg0.size hD) (Nat.ne_of_lt (Nat.lt_of_lt_of_le hRB hD)) (Nat.le_succ _) (below_gr hg) hK
    have hh := hide (has_all3 hall)
    clear hall
    gi_wp2
    refine ⟨by simp, .inl ⟨_, _, rfl, run_takeDeferred l1, ?_⟩⟩
    refine ⟨.bool true, ?_, by rw [hh.out], fil_keep hF ((gr_of_below l3).block b hlt (by simp)), gr_of_below l3⟩
    rw [results_cell rfl]
    go_simp
  case stop =>
    rintro D c pre V hD hpre ⟨⟨rfl, hex⟩, hbr, hg⟩ hK
    have hh := hide (has_not3 hpre hex)
    have hg2 := gr_new hg (grownBy_putObj' V D (.deferred none)) (Nat.le_trans hg0.size hD)
    have hbr2 : (V.putObj D (.deferred none)).cell? ⟨w.heap.size + 1, 0, none⟩ = some (.bool false) := by
      rw [World.cell?_of_block (w := V) (World.putObj_heap_other (Nat.ne_of_lt (Nat.lt_of_lt_of_le hRB hD)))]
      exact hbr.cell
    clear hex
    gi_wp2
    refine ⟨by simp, .inl ⟨_, _, rfl, run_takeDeferred hK, ?_⟩⟩
    refine ⟨.bool false, ?_, by rw [hh.out], fil_keep hF (hg2.block b hlt (by simp)), hg2⟩
    rw [results_cell rfl]
    go_simp
end Go.Proofs.YtckjjfkfapfdaaaGreat

namespace Go.Proofs.YtckjjfkfapfdaaaGreat
open Go.RowKit Go.Shelf
attribute [local go_sem] Oper.semAt_some

theorem cells_set (sd : Nat) (ws : List Nat) (q y : Nat) : (cellsF sd ws).setIfInBounds (1 + q) (.int .u64 (y : Int)) = cellsF sd (ws.set q y) := by
  unfold cellsF
  rw [List.setIfInBounds_toArray, Nat.add_comm, List.set_cons_succ, List.map_set]
/-- The word of a place, and the filter behind the place's bit. -/
theorem fil_store {w : World} {b sd : Nat} {S : List Nat} (h : Fil0 w b sd S) (p : Nat) (hp : p < 512) : ∃ y : Nat, w.cell? ⟨b, 1 + p / 64, none⟩ = some (.int .u64 y) ∧ w.frozen? ⟨b, 1 + p / 64, none⟩ = false ∧ y < 18446744073709551616 ∧
    ∀ k : Nat, Fil0 ((w.drewN k).setCell ⟨b, 1 + p / 64, none⟩ (.int .u64 ((y ||| 2 ^ (p % 64) : Nat) : Int))) b sd (insS S p) := by
  obtain ⟨ws, h1, h2, h3, h4⟩ := h
  have hl : p / 64 < ws.length := by rw [h1.len]; omega
  have hg : ws.getD (p / 64) 0 = ws[p / 64] := by simp [List.getD, List.getElem?_eq_getElem hl]
  refine ⟨ws.getD (p / 64) 0, ?_, frozen_of_row w b _ _ _ h4, ?_, fun k => ⟨_, bits_ins h1 p hp, ?_, h3, ?_⟩⟩
  · rw [cell_of_row w b _ _ _ _ h4, hg]
    simp [cellsF, Nat.add_comm 1, hl]
  · rw [hg]
    exact h1.lt _ (List.getElem_mem hl)
  · refine ⟨nodup_ins h2.1 p, fun x hx => ?_⟩
    rcases (mem_ins S p x).1 hx with h5 | rfl
    · exact h2.2 x h5
    · exact hp
  · rw [heap_setCell_same (w.drewN k) b _ _ _ _ h4, cells_set]
theorem own_fil {β : Type} {B b sd : Nat} (f : β → List Nat) (h : b < B) : OwnFrom B (fun (s : β) V => Fil0 V b sd (f s)) := fun s W W' row hs hg hr =>
  fil_keep hs (hg.block b (fil_lt hs) (fun e => by have := (hr b e.symm).1; omega))
theorem add_snoc (S : List Nat) (sd : Nat) (l : List UInt8) (pre : List Nat) (x : Nat) : addS S ((pre ++ [x]).map (placeN sd l)) = insS (addS S (pre.map (placeN sd l))) (placeN sd l x) := by
  simp [addS]
theorem boxes2a (w : World) (v : Value) (s : ByteArray) : ∃ V, (w.alloc (.cells #[v] 122)).alloc (.cells #[.string s] 9) = V ∧
    Boxed V w.heap.size 122 v ∧ Boxed V (w.heap.size + 1) 9 (.string s) ∧ w.grownBy V none := by
  refine ⟨_, rfl, ?_⟩
  have b0 := Boxed.new w 122 v
  have b1 := Boxed.new (w.alloc (.cells #[v] 122)) 9 (.string s)
  simp only [World.size_alloc] at b1
  exact ⟨b0.alloc _, b1, gr_trans (World.grownBy_alloc _ _ _) (World.grownBy_alloc _ _ _)⟩

set_option maxRecDepth 100000 in
set_option maxHeartbeats 4000000 in
theorem fil_add {w : World} {b sd : Nat} {S : List Nat} (hF : Fil0 w b sd S) (s : ByteArray) (hs : s.size ≤ 300) : Calls Tryz.prog 75 #[.pointer (some ⟨b, 0, none⟩), .string s] w fun e w' => e = .returned (.bool (hasS S (pls sd s.data.toList))) ∧ Fil0 w' b sd (addS S (pls sd s.data.toList)) ∧ w.grownBy w' (some b) := by
  refine (callsIn_wide (n := 6)).1 ?_
  have hlt := fil_lt hF
  have hg1 := World.grownBy_alloc w (.cells #[.pointer (some ⟨b, 0, none⟩)] 122) none
  have bF := Boxed.new w 122 (.pointer (some ⟨b, 0, none⟩))
  have HH := hide (fil_has (fil_keep hF (hg1.block b hlt (by simp))) s hs)
  have HS : Hid (addS S ((List.range 3).map (placeN sd s.data.toList)) = addS S (pls sd s.data.toList)) := rfl
  generalize hasS S (pls sd s.data.toList) = had at *
  refine callsIn_of_wp_marks Tryz.func75 rfl trivial ?_ rfl
  simp only [Tryz.ntmps75, List.size_toArray, List.length_cons, List.length_nil, Nat.reduceAdd, Nat.reduceSub, Array.replicate_succ, Array.replicate_zero, List.push_toArray, List.append_toArray, List.nil_append, List.cons_append]
  gi_wp2_with (first
    | (refine ⟨trivial, ?_⟩; gi_at_call 106; refine (callsIn_wide.2 HH.out).mono ?_; clear HH; rintro e w2 ⟨rfl, hF2, hg2⟩; have bF2 := bF.kept hg2 (by simp); have hcf2 := bF2.cell)
    | (refine ⟨trivial, ?_⟩; gi_at_call 107; refine (placesMk_in (6 - 1) b s _).mono ?_; rintro e w3 ⟨rfl, rfl⟩))
  obtain ⟨W0, hW0, bf2, bs, hgb⟩ := boxes2a w2 (.pointer (some ⟨b, 0, none⟩)) s
  rw [hW0]
  have hg0 : w.grownBy W0 none := gr_trans (gr_trans hg1 hg2) hgb
  have bf := bF2.kept hgb (by simp)
  have hF0 := fil_keep hF (hg0.block b hlt (by simp))
  have hbf := bf.lt
  have hbB := Nat.lt_of_lt_of_le hlt hg0.size
  have hne : w.heap.size ≠ b := Nat.ne_of_gt hlt
  clear hW0 hg1 hg2 hgb bF bF2 hcf2
  refine range_own rfl (by decide) (gf := 133) (lb := #[.pointer (some ⟨w2.heap.size, 0, none⟩), .pointer (some ⟨w2.heap.size + 1, 0, none⟩)]) rfl trivial (enters_of Tryz.func133 (by kernel_rfl) rfl)
    (places_own _ _ b sd s (Nat.le_trans hs (by decide)) W0 bf2.cell bs.cell (fil_seed hF0)) (Below.refl _ _) (fun _ => rfl)
    (fun pre V => Boxed V w.heap.size 122 (.pointer (some ⟨b, 0, none⟩)) ∧ (Fil0 V b sd (addS S (pre.map (placeN sd s.data.toList))) ∧ w.grownBy V (some b)))
    (fun _ _ _ => False)
    (OwnFrom.and (Own.from (boxed_own _ _ (fun _ => _)) _) (OwnFrom.and (own_fil _ hbB) (own_grown hg0.size)))
    (fun _ _ _ _ _ hs _ _ => hs)
    ⟨bf, hF0, gr_any hg0 _⟩ ?a1 ?assign ?body ?done ?stop
  case assign =>
    intro l2 x V K hK
    unfold plV
    gi_wp2
    exact hK
  case body =>
    rintro l2 pre x V ⟨hbv, hfv, hg⟩ hlen
    have hp := place_lt sd s.data.toList x
    obtain ⟨y, hcy, hfy, hy, hnew⟩ := fil_store hfv (placeN sd s.data.toList x) hp
    have hcf := hbv.cell
    have hB := bit_any (placeN sd s.data.toList x) hp
    have hsn := hide (add_snoc S sd s.data.toList pre x)
    generalize hP : placeN sd s.data.toList x = p at *
    have hm := two_pow_lt (Nat.mod_lt p (show 0 < 64 by decide))
    generalize 2 ^ (p % 64) = m at *
    obtain ⟨hq, hqt, hqw, hq8⟩ := quo_word p hp
    have hix := index_at b _ hq8
    generalize p / 64 = q at *
    have E : Value.int .u64 (bits .or .u64 (y : Int) (m : Int)) = .int .u64 ((y ||| m : Nat) : Int) := by rw [u64_or_nat y m hy hm]
    generalize y ||| m = z at *
    have HC : ∀ k : Nat, CallsIn Fence.wide (4 - 1) Tryz.prog 108 #[.int .i64 p] (V.drewN k) fun e w' => e = .returned (.int .u64 (m : Int)) ∧ w' = V.drewN k := fun k => (callsIn_wide.2 (hB _)).mono fun e w' h => ⟨h.1, h.2.symm⟩
    have hwf : ∀ f, Fence.wide.fn f := fun _ => trivial
    have HN := hide hnew
    clear hB hm hy hq8 hp hlen hnew
    gi_wp2
    refine region_tail 13 _ l2 rfl rfl (by kernel_rfl) (by kernel_rfl) ?_
    simp only [List.take_succ_cons, List.take_zero]
    repeat (gi_big_quiet_step ((gi_at_call 108; exact CallsIn.quiet_of_same (HC _))))
    refine wpQuietIn_nil ?_
    rintro _ ⟨nq, rfl⟩
    go_simp
    gi_wp2
    refine ⟨(since_drewN _ V nq).trans (since_set _ _ hbB), boxed_set hbv hne _, ?_, set_gr hg _⟩
    rw [hsn.out]
    exact HN.out nq
  case done =>
    rintro D ys V hD rfl ⟨hbv, hfv, hg⟩ hK
    rw [HS.out] at hfv
    have hDb : b ≠ D := Nat.ne_of_lt (Nat.lt_of_lt_of_le hbB hD)
    gi_wp2
    refine ⟨by simp, .inl ⟨_, _, rfl, run_takeDeferred hK, ?_⟩⟩
    exact ⟨_, results_tmp rfl _ _ _, rfl, fil_keep hfv (World.putObj_heap_other hDb), gr_new hg (grownBy_putObj' V D (.deferred none)) (Nat.le_trans hg0.size hD)⟩
  case stop =>
    rintro D c pre V _ _ h _
    exact h.elim

/-- The contracts of package bloom. -/
theorem bloom_lib : BloomLib Fil0 where
  lt := fil_lt
  good := fil_good
  keep := fil_keep
  new := fil_new
  add := fil_add
  has := fil_has
  clear := fil_clear
end Go.Proofs.YtckjjfkfapfdaaaGreat

namespace Go.Proofs.YtckjjfkfapfdaaaGreat
open Go.RowKit

/-- Two counters in a byte, and all bytes. -/
def pk (C : List Nat) (j : Nat) : Nat := C.getD (2 * j) 0 + 16 * C.getD (2 * j + 1) 0
def pack (C : List Nat) : List Nat := (List.range 128).map (pk C)
theorem pack_len (C : List Nat) : (pack C).length = 128 := by simp [pack]
theorem pack_get (C : List Nat) (j : Nat) (h : j < 128) : (pack C)[j]? = some (pk C j) := by
  simp [pack, List.getElem?_map, List.getElem?_range h]
theorem pack_getD (C : List Nat) (j : Nat) (h : j < 128) : (pack C).getD j 0 = pk C j := by
  simp only [List.getD, pack_get C j h, Option.getD_some]
theorem pk_lt {C : List Nat} (h : ∀ c ∈ C, c ≤ 15) (j : Nat) : pk C j < 256 := by
  have h1 := get_le h (2 * j)
  have h2 := get_le h (2 * j + 1)
  unfold pk
  omega
theorem pack_ext {C : List Nat} {l : List Nat} (hl : l.length = 128) (h : ∀ j, j < 128 → l.getD j 0 = pk C j) : l = pack C := by
  apply List.ext_getElem?
  intro j
  by_cases hj : j < 128
  · rw [pack_get C j hj, ← h j hj]
    simp [List.getD, List.getElem?_eq_getElem (show j < l.length by omega)]
  · rw [List.getElem?_eq_none (by omega), List.getElem?_eq_none (by rw [pack_len]; omega)]
theorem getD_set_eq (l : List Nat) (i j x : Nat) (h : i < l.length) : (l.set i x).getD j 0 = if i = j then x else l.getD j 0 := by
  simp only [List.getD, List.getElem?_set]
  by_cases e : i = j
  · subst e
    simp [h]
  · simp [e]
/-- One counter more, in its byte. -/
theorem pack_inc {C : List Nat} (hl : C.length = 256) (g : Nat) (hg : g < 256) (h : C.getD g 0 < 15) : pack (inc C g) = (pack C).set (g / 2) (pk C (g / 2) + (if g % 2 = 0 then 1 else 16)) := by
  symm
  apply pack_ext (by rw [List.length_set, pack_len])
  intro j hj
  rw [getD_set_eq _ _ _ _ (by rw [pack_len]; omega), pack_getD C j hj]
  unfold inc pk
  rw [if_pos h, getD_set_eq _ _ _ _ (by omega), getD_set_eq _ _ _ _ (by omega)]
  by_cases e : g / 2 = j
  · subst e
    rw [if_pos rfl]
    have h2 := Nat.mod_two_eq_zero_or_one g
    rcases h2 with h2 | h2
    · have e1 : 2 * (g / 2) = g := by omega
      rw [if_pos h2, e1, if_pos rfl, if_neg (by omega)]
      omega
    · have e1 : 2 * (g / 2) + 1 = g := by omega
      rw [if_neg (by omega), e1, if_neg (by omega), if_pos rfl]
      omega
  · rw [if_neg e, if_neg (by omega), if_neg (by omega)]
theorem pack_same {C : List Nat} (g : Nat) (h : ¬ C.getD g 0 < 15) : inc C g = C := by
  unfold inc
  rw [if_neg h]

/-- The cells of a sketch: its seed, its age, and its bytes. -/
def cellsK (sd age : Nat) (bs : List Nat) : Array Value := (.int .u64 sd :: .int .i64 age :: bs.map fun x => .int .u8 (x : Nat)).toArray
def Blk (w : World) (b sd age : Nat) (bs : List Nat) : Prop := w.heap[b]? = some (.cells (cellsK sd age bs) 162 (0, 0))
/-- The sketch at block b has this seed, these counters and this age. -/
def Sk0 (w : World) (b sd : Nat) (st : St) : Prop := GoodK st ∧ sd < 18446744073709551616 ∧ Blk w b sd st.2 (pack st.1)

theorem blk_lt {w : World} {b sd age : Nat} {bs : List Nat} (h : Blk w b sd age bs) : b < w.heap.size := (Array.getElem?_eq_some_iff.1 h).1
theorem blk_keep {w w' : World} {b sd age : Nat} {bs : List Nat} (h : Blk w b sd age bs) (e : w'.heap[b]? = w.heap[b]?) : Blk w' b sd age bs := e.trans h
theorem blk_seed {w : World} {b sd age : Nat} {bs : List Nat} (h : Blk w b sd age bs) : w.cell? ⟨b, 0, none⟩ = some (.int .u64 sd) := by
  rw [cell_of_row w b _ _ _ _ h]
  rfl
theorem blk_age {w : World} {b sd age : Nat} {bs : List Nat} (h : Blk w b sd age bs) : w.cell? ⟨b, 1, none⟩ = some (.int .i64 age) := by
  rw [cell_of_row w b _ _ _ _ h]
  rfl
theorem blk_at {w : World} {b sd age : Nat} {bs : List Nat} (h : Blk w b sd age bs) (j : Nat) (hj : j < bs.length) : w.cell? ⟨b, 2 + j, none⟩ = some (.int .u8 (bs.getD j 0 : Nat)) := by
  rw [cell_of_row w b _ _ _ _ h]
  simp [cellsK, Nat.add_comm 2, hj, List.getD]
theorem blk_free {w : World} {b sd age : Nat} {bs : List Nat} (h : Blk w b sd age bs) (j : Nat) : w.frozen? ⟨b, j, none⟩ = false := frozen_of_row w b _ _ _ h
theorem blk_set {w : World} {b sd age : Nat} {bs : List Nat} (h : Blk w b sd age bs) (j y : Nat) : Blk (w.setCell ⟨b, 2 + j, none⟩ (.int .u8 (y : Nat))) b sd age (bs.set j y) := by
  unfold Blk
  rw [heap_setCell_same w b _ _ _ _ h]
  unfold cellsK
  rw [List.setIfInBounds_toArray, Nat.add_comm, List.set_cons_succ, List.set_cons_succ, List.map_set]
theorem blk_setAge {w : World} {b sd age : Nat} {bs : List Nat} (h : Blk w b sd age bs) (y : Nat) : Blk (w.setCell ⟨b, 1, none⟩ (.int .i64 (y : Nat))) b sd y bs := by
  unfold Blk
  rw [heap_setCell_same w b _ _ _ _ h]
  unfold cellsK
  rw [List.setIfInBounds_toArray, List.set_cons_succ, List.set_cons_zero]

theorem sk_lt {w : World} {b sd : Nat} {st : St} (h : Sk0 w b sd st) : b < w.heap.size := blk_lt h.2.2
theorem sk_good {w : World} {b sd : Nat} {st : St} (h : Sk0 w b sd st) : GoodK st ∧ sd < 18446744073709551616 := ⟨h.1, h.2.1⟩
theorem sk_keep {w w' : World} {b sd : Nat} {st : St} (h : Sk0 w b sd st) (e : w'.heap[b]? = w.heap[b]?) : Sk0 w' b sd st := ⟨h.1, h.2.1, blk_keep h.2.2 e⟩

theorem zeroK (w : World) : (zeroValue 162).run Tryz.prog w = .ok (.agg (cellsK 0 0 (pack (List.replicate 256 0)))) w := (zero_of_info (n := 130) (by kernel_rfl)).1 w
theorem cellsK_seed (x y age : Nat) (bs : List Nat) : (cellsK x age bs).setIfInBounds 0 (.int .u64 (y : Nat)) = cellsK y age bs := by
  unfold cellsK
  rw [List.setIfInBounds_toArray, List.set_cons_zero]
theorem cellsK_size (x age : Nat) (bs : List Nat) : (cellsK x age bs).size = bs.length + 2 := by simp [cellsK]
theorem cellsK_ne (x age : Nat) (bs : List Nat) : (cellsK x age bs = #[]) = False := by
  simp [cellsK]
set_option maxHeartbeats 1000000 in
theorem sketchNew_any (sd : Nat) (w : World) : Calls Tryz.prog 59 #[.int .u64 sd] w fun e w' => e = .returned (.pointer (some ⟨w.heap.size, 0, none⟩)) ∧ w' = w.alloc (.cells (cellsK sd 0 (pack (List.replicate 256 0))) 162) := by
  have hz := zeroK
  have hs := cellsK_seed 0 sd 0 (pack (List.replicate 256 0))
  have hn := cellsK_ne 0 0 (pack (List.replicate 256 0))
  generalize cellsK 0 0 (pack (List.replicate 256 0)) = Z at *
  generalize cellsK sd 0 (pack (List.replicate 256 0)) = Y at *
  go_enter Tryz.func59, Tryz.ntmps59
  go_wp2
  go_ret
  exact ⟨rfl, rfl⟩
set_option maxHeartbeats 1000000 in
theorem shift_any (p : Nat) (h : p < 64) (w : World) : Calls Tryz.prog 111 #[.int .i64 p] w fun e w' => e = .returned (.int .i64 ((p % 2 * 4 : Nat) : Int)) ∧ w = w' := by
  have h1 : (p : Int).tmod 2 = ((p % 2 : Nat) : Int) := by rw [Int.tmod_eq_emod_of_nonneg (by omega)]; omega
  have h2 : (p : Int) % 2 = ((p % 2 : Nat) : Int) := by omega
  have h3 := Nat.mod_lt p (show 0 < 2 by decide)
  generalize p % 2 = m at *
  clear h
  go_enter Tryz.func111, Tryz.ntmps111
  go_wp2
  go_ret
  exact ⟨by rw [Int.natCast_mul]; rfl, rfl⟩
/-- A whole value into the block that was made last. -/
theorem wpList_store_new {P : Program} {ops : Array Oper} {rest : List Oper} {op : Oper} {a : Act} {w : World} {Q : Exit → Act → World → Prop} (hgd : op.guard = none) (ty : TypeId) (x y : Operand) (ho : op.op = .store ty x y)
    (w0 : World) (c c' : Array Value) (hw : w = w0.alloc (.cells c ty)) (hx : a.eval x = .pointer (some ⟨w0.heap.size, 0, none⟩)) (hy : a.eval y = .agg c')
    (hi : (P.info? ty).map (·.size) = some c'.size) (hc : c.size = c'.size) (h1 : c'.all (·.oneCell') = true)
    (h : wpList P ops Q rest (a.put op.dst undef) (w0.alloc (.cells c' ty))) : wpList P ops Q (op :: rest) a w := by
  refine wpList_plain hgd fun K hK => ?_
  subst hw
  unfold Oper.wp execOp
  simp only [ho, hx, hy, Instr.storeAt, Instr.sureAddr, Sem.run_bind, Sem.run_pure, Result.andThen_ok, run_storeVar_new w0 ty c c' hi hc h1]
  exact hK _ _ h
end Go.Proofs.YtckjjfkfapfdaaaGreat
