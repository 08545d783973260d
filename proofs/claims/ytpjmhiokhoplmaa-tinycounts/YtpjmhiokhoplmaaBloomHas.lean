/- What Has of package bloom answers. Conditions: the text takes at most 300 bytes. -/
import Derived.Test.YtpjmhiokhoplmaaBloomP
import Derived.Test.YtpjmhiokhoplmaaRangeKit
import Derived.Test.YtpjmhiokhoplmaaRegionTail
namespace Go.Proofs.Ytpjmhiokhoplmaa
open Go.RowKit Go.Shelf
attribute [local go_sem] Oper.semAt_some

theorem boxes4h (w : World) (v : Value) (s : ByteArray) : ∃ V, (((w.alloc (.cells #[v] 39)).alloc (.cells #[.bool false] 4)).alloc (.cells #[v] 39)).alloc (.cells #[.string s] 9) = V ∧
    Boxed V w.heap.size 39 v ∧ Boxed V (w.heap.size + 1) 4 (.bool false) ∧ Boxed V (w.heap.size + 1 + 1) 39 v ∧ Boxed V (w.heap.size + 1 + 1 + 1) 9 (.string s) ∧ V.heap.size = w.heap.size + 4 ∧ w.grownBy V none := by
  refine ⟨_, rfl, ?_⟩
  have b0 := Boxed.new w 39 v
  have b1 := Boxed.new (w.alloc (.cells #[v] 39)) 4 (.bool false)
  have b2 := Boxed.new ((w.alloc (.cells #[v] 39)).alloc (.cells #[.bool false] 4)) 39 v
  have b3 := Boxed.new (((w.alloc (.cells #[v] 39)).alloc (.cells #[.bool false] 4)).alloc (.cells #[v] 39)) 9 (.string s)
  simp only [World.size_alloc] at b1 b2 b3
  exact ⟨((b0.alloc _).alloc _).alloc _, (b1.alloc _).alloc _, b2.alloc _, b3, by simp only [World.size_alloc], gr_trans (gr_trans (gr_trans (World.grownBy_alloc _ _ _) (World.grownBy_alloc _ _ _)) (World.grownBy_alloc _ _ _)) (World.grownBy_alloc _ _ _)⟩

/-- A filter's word that holds a place, and the seed's cell. -/
theorem fil_word {w : World} {b sd : Nat} {S : List Nat} (h : Fil0 w b sd S) (p : Nat) (hp : p < 512) : ∃ x : Nat, w.cell? ⟨b, 1 + p / 64, none⟩ = some (.int .u64 x) ∧ x < 18446744073709551616 ∧ (x &&& 2 ^ (p % 64) = 0 ↔ ¬ p ∈ S) := by
  obtain ⟨ws, h1, _, _, h4⟩ := h
  have hl : p / 64 < ws.length := by rw [h1.len]; omega
  have hg : ws.getD (p / 64) 0 = ws[p / 64] := by simp [List.getD, List.getElem?_eq_getElem hl]
  refine ⟨ws.getD (p / 64) 0, ?_, ?_, bits_and h1 p hp⟩
  · rw [cell_of_row w b _ _ _ _ h4, hg]
    simp [cellsF, Nat.add_comm 1, hl]
  · rw [hg]
    exact h1.lt _ (List.getElem_mem hl)
theorem fil_seed {w : World} {b sd : Nat} {S : List Nat} (h : Fil0 w b sd S) : w.cell? ⟨b, 0, none⟩ = some (.int .u64 sd) := by
  obtain ⟨ws, _, _, _, h4⟩ := h
  rw [cell_of_row w b _ _ _ _ h4]
  rfl
theorem has_all3 {S : List Nat} {sd : Nat} {l : List UInt8} (h : ∀ k ∈ List.range 3, placeN sd l k ∈ S) : hasS S (pls sd l) = true := by
  refine (hasS_iff _ _).2 fun p hp => ?_
  have : pls sd l = (List.range 3).map (placeN sd l) := rfl
  rw [this] at hp
  obtain ⟨k, hk, rfl⟩ := List.mem_map.1 hp
  exact h k hk
theorem has_not3 {S : List Nat} {sd : Nat} {l : List UInt8} {pre : List Nat} (hp : pre <+: List.range 3) (h : ∃ k ∈ pre, ¬ placeN sd l k ∈ S) : hasS S (pls sd l) = false := by
  obtain ⟨k, hk, hn⟩ := h
  cases e : hasS S (pls sd l) with
  | false => rfl
  | true =>
    have := (hasS_iff _ _).1 e (placeN sd l k) (by
      have e2 : pls sd l = (List.range 3).map (placeN sd l) := rfl
      rw [e2]
      exact List.mem_map_of_mem (hp.subset hk))
    exact (hn this).elim

/-- The address of a word of a filter. -/
theorem index_at (b q : Nat) (h : q < 8) (W : World) : (Instr.indexAt 56 (.pointer (some ⟨b, 1, none⟩)) (.int .i64 (q : Int))).run Try.prog W = .ok (.pointer (some ⟨b, 1 + q, none⟩)) W := by
  have h8 : q = 0 ∨ q = 1 ∨ q = 2 ∨ q = 3 ∨ q = 4 ∨ q = 5 ∨ q = 6 ∨ q = 7 := by omega
  clear h
  rcases h8 with rfl | rfl | rfl | rfl | rfl | rfl | rfl | rfl <;> (show _ = _; kernel_rfl)
theorem quo_word (p : Nat) (h : p < 512) : ((p : Int) / 64) = ((p / 64 : Nat) : Int) ∧ (p : Int).tdiv 64 = ((p / 64 : Nat) : Int) ∧ Value.int .i64 (IntKind.i64.wrap ((p / 64 : Nat) : Int)) = .int .i64 ((p / 64 : Nat) : Int) ∧ p / 64 < 8 := by
  have h1 : ((p : Int) / 64) = ((p / 64 : Nat) : Int) := by omega
  have h2 : p / 64 < 8 := by omega
  refine ⟨h1, by rw [Int.tdiv_eq_ediv_of_nonneg (by omega)]; exact h1, by rw [wrap_nat _ (Nat.lt_trans h2 (by decide))], h2⟩
set_option maxRecDepth 100000 in
set_option maxHeartbeats 4000000 in
theorem fil_has {w : World} {b sd : Nat} {S : List Nat} (hF : Fil0 w b sd S) (s : ByteArray) (hs : s.size ≤ 300) : Calls Try.prog 30 #[.pointer (some ⟨b, 0, none⟩), .string s] w fun e w' => e = .returned (.bool (hasS S (pls sd s.data.toList))) ∧ Fil0 w' b sd S ∧ w.grownBy w' none := by
  refine (callsIn_wide (n := 6)).1 ?_
  have hlt := fil_lt hF
  refine callsIn_of_wp_marks Try.func30 rfl trivial ?_ rfl
  simp only [Try.ntmps30, List.size_toArray, List.length_cons, List.length_nil, Nat.reduceAdd, Nat.reduceSub, Array.replicate_succ, Array.replicate_zero, List.push_toArray, List.append_toArray, List.nil_append, List.cons_append]
  gi_wp2_with (refine ⟨trivial, ?_⟩; gi_at_call 33; refine (placesMk_in (6 - 1) b s _).mono ?_; rintro e w1 ⟨rfl, rfl⟩)
  obtain ⟨W0, hW0, bf, br, bf2, bs, sz0, hg0⟩ := boxes4h w (.pointer (some ⟨b, 0, none⟩)) s
  rw [hW0]
  clear hW0
  have hRB : w.heap.size + 1 < W0.heap.size := by rw [sz0]; exact Nat.add_lt_add_left (by decide) _
  have hF0 := fil_keep hF (hg0.block b hlt (by simp))
  refine range_own rfl (by decide) (gf := 42) (lb := #[.pointer (some ⟨w.heap.size + 1 + 1, 0, none⟩), .pointer (some ⟨w.heap.size + 1 + 1 + 1, 0, none⟩)]) rfl trivial (enters_of Try.func42 (by kernel_rfl) rfl)
    (places_own _ _ b sd s (Nat.le_trans hs (by decide)) W0 bf2.cell bs.cell (fil_seed hF0)) (Below.refl _ _) (fun _ => rfl)
    (fun pre V => (Boxed V w.heap.size 39 (.pointer (some ⟨b, 0, none⟩)) ∧ Boxed V (w.heap.size + 1) 4 (.bool false)) ∧ ((∀ k ∈ pre, placeN sd s.data.toList k ∈ S) ∧ w.grownBy V none))
    (fun c pre V => (c = .ret ∧ ∃ k ∈ pre, ¬ placeN sd s.data.toList k ∈ S) ∧ (Boxed V (w.heap.size + 1) 4 (.bool false) ∧ w.grownBy V none))
    (OwnFrom.and (OwnFrom.and (Own.from (boxed_own _ _ (fun _ => _)) _) (Own.from (boxed_own _ _ (fun _ => _)) _)) (OwnFrom.and (ownFrom_pure _ _) (own_grown hg0.size)))
    (fun c => OwnFrom.and (ownFrom_pure _ _) (OwnFrom.and (Own.from (boxed_own _ _ (fun _ => _)) _) (own_grown hg0.size)))
    ⟨⟨bf, br⟩, (fun k hk => (List.not_mem_nil hk).elim), hg0⟩ ?a1 ?assign ?body ?done ?stop
  case assign =>
    intro l2 x V K hK
    unfold plV
    gi_wp2
    exact hK
  case body =>
    rintro l2 pre x V ⟨⟨hbf, hbr⟩, hall, hg⟩ hlen
    have hFV := fil_keep hF (hg.block b hlt (by simp))
    have hp := place_lt sd s.data.toList x
    obtain ⟨y, hcy, hy, hmem⟩ := fil_word hFV (placeN sd s.data.toList x) hp
    have hcf := hbf.cell
    have hcr := hbr.cell
    have hfr := hbr.frozen
    have hmix : Try.prog.follows .mixedOrders = true := by kernel_rfl
    have hB := bit_any (placeN sd s.data.toList x) hp
    generalize hP : placeN sd s.data.toList x = p at *
    have hm := two_pow_lt (Nat.mod_lt p (by decide))
    generalize 2 ^ (p % 64) = m at *
    obtain ⟨hq, hqt, hqw, hq8⟩ := quo_word p hp
    have hix := index_at b _ hq8
    generalize p / 64 = q at *
    clear hq8
    have E : Value.int .u64 (bits .and .u64 (y : Int) (m : Int)) = .int .u64 ((y &&& m : Nat) : Int) := by rw [u64_and_nat y m hy hm]
    generalize y &&& m = z at *
    clear hm hy
    have HC : ∀ k : Nat, CallsIn Fence.wide (4 - 1) Try.prog 34 #[.int .i64 p] (V.drewN k) fun e w' => e = .returned (.int .u64 (m : Int)) ∧ w' = V.drewN k := fun k => (callsIn_wide.2 (hB _)).mono fun e w' h => ⟨h.1, h.2.symm⟩
    clear hB
    have hwf : ∀ f, Fence.wide.fn f := fun _ => trivial
    by_cases hz : z = 0
    · have hnot := hide (hmem.1 hz)
      subst hz
      clear hmem
      gi_wp2
      refine region_tail 10 _ l2 rfl rfl (by kernel_rfl) (by kernel_rfl) ?_
      simp only [List.take_succ_cons, List.take_zero]
      repeat (gi_big_quiet_step ((gi_at_call 34; exact CallsIn.quiet_of_same (HC _))))
      refine wpQuietIn_nil ?_
      rintro _ ⟨nq, rfl⟩
      go_simp
      gi_wp2
      refine ⟨(since_drewN _ V nq).trans (since_set _ _ hRB), ⟨rfl, x, List.mem_append_right _ (List.mem_singleton.2 rfl), ?_⟩, Boxed.set _ (show Boxed (V.drewN nq) _ _ _ from hbr), gr_new (gr_drewN hg nq) (grownBy_setCell' _ _ _) (Nat.le_succ _)⟩
      rw [hP]
      exact hnot.out
    · have hin := hide (Decidable.not_not.1 fun hn => hz (hmem.2 hn))
      have hzb : ((z : Int) == 0) = false := nat_beq hz
      clear hmem hz
      gi_wp2
      refine region_tail 10 _ l2 rfl rfl (by kernel_rfl) (by kernel_rfl) ?_
      simp only [List.take_succ_cons, List.take_zero]
      repeat (gi_big_quiet_step ((gi_at_call 34; exact CallsIn.quiet_of_same (HC _))))
      refine wpQuietIn_nil ?_
      rintro _ ⟨nq, rfl⟩
      go_simp
      gi_wp2
      refine ⟨since_drewN _ V nq, ⟨hbf, hbr⟩, fun k hk => ?_, gr_drewN hg nq⟩
      rcases List.mem_append.1 hk with h1 | h1
      · exact hall k h1
      · rw [List.mem_singleton.1 h1, hP]
        exact hin.out
  case done =>
    rintro D ys V hD rfl ⟨⟨hbf, hbr⟩, hall, hg⟩ hK
    have hcr := hbr.cell
    have hfr := hbr.frozen
    obtain ⟨l1, l2, l3⟩ := last_store (b := true) hbr (Nat.le_trans hg0.size hD) (Nat.ne_of_lt (Nat.lt_of_lt_of_le hRB hD)) (Nat.le_succ _) (below_gr hg) hK
    have hh := hide (has_all3 hall)
    clear hall
    gi_wp2
    refine ⟨by simp, .inl ⟨_, _, rfl, run_takeDeferred l1, ?_⟩⟩
    refine ⟨.bool true, ?_, by rw [hh.out], fil_keep hF ((gr_of_below l3).block b hlt (by simp)), gr_of_below l3⟩
    rw [results_cell rfl]
    go_simp
  case stop =>
    rintro D c pre V hD hpre ⟨⟨rfl, hex⟩, hbr, hg⟩ hK
    have hh := hide (has_not3 hpre hex)
    have hg2 := gr_new hg (grownBy_putObj' V D (.deferred none)) (Nat.le_trans hg0.size hD)
    have hbr2 : (V.putObj D (.deferred none)).cell? ⟨w.heap.size + 1, 0, none⟩ = some (.bool false) := by
      rw [World.cell?_of_block (w := V) (World.putObj_heap_other (Nat.ne_of_lt (Nat.lt_of_lt_of_le hRB hD)))]
      exact hbr.cell
    clear hex
    gi_wp2
    refine ⟨by simp, .inl ⟨_, _, rfl, run_takeDeferred hK, ?_⟩⟩
    refine ⟨.bool false, ?_, by rw [hh.out], fil_keep hF (hg2.block b hlt (by simp)), hg2⟩
    rw [results_cell rfl]
    go_simp
end Go.Proofs.Ytpjmhiokhoplmaa
