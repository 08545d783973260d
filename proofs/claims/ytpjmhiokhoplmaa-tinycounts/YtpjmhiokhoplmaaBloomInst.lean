/- What Add of package bloom does, and with it all of the package's contracts. Conditions: the text takes at most 300 bytes. -/
import Derived.Test.YtpjmhiokhoplmaaBloomHas
namespace Go.Proofs.Ytpjmhiokhoplmaa
open Go.RowKit Go.Shelf
attribute [local go_sem] Oper.semAt_some

theorem cells_set (sd : Nat) (ws : List Nat) (q y : Nat) : (cellsF sd ws).setIfInBounds (1 + q) (.int .u64 (y : Int)) = cellsF sd (ws.set q y) := by
  unfold cellsF
  rw [List.setIfInBounds_toArray, Nat.add_comm, List.set_cons_succ, List.map_set]
/-- The word of a place, and the filter behind the place's bit. -/
theorem fil_store {w : World} {b sd : Nat} {S : List Nat} (h : Fil0 w b sd S) (p : Nat) (hp : p < 512) : ∃ y : Nat, w.cell? ⟨b, 1 + p / 64, none⟩ = some (.int .u64 y) ∧ w.frozen? ⟨b, 1 + p / 64, none⟩ = false ∧ y < 18446744073709551616 ∧
    ∀ k : Nat, Fil0 ((w.drewN k).setCell ⟨b, 1 + p / 64, none⟩ (.int .u64 ((y ||| 2 ^ (p % 64) : Nat) : Int))) b sd (insS S p) := by
  obtain ⟨ws, h1, h2, h3, h4⟩ := h
  have hl : p / 64 < ws.length := by rw [h1.len]; omega
  have hg : ws.getD (p / 64) 0 = ws[p / 64] := by simp [List.getD, List.getElem?_eq_getElem hl]
  refine ⟨ws.getD (p / 64) 0, ?_, frozen_of_row w b _ _ _ h4, ?_, fun k => ⟨_, bits_ins h1 p hp, ?_, h3, ?_⟩⟩
  · rw [cell_of_row w b _ _ _ _ h4, hg]
    simp [cellsF, Nat.add_comm 1, hl]
  · rw [hg]
    exact h1.lt _ (List.getElem_mem hl)
  · refine ⟨nodup_ins h2.1 p, fun x hx => ?_⟩
    rcases (mem_ins S p x).1 hx with h5 | rfl
    · exact h2.2 x h5
    · exact hp
  · rw [heap_setCell_same (w.drewN k) b _ _ _ _ h4, cells_set]
theorem own_fil {β : Type} {B b sd : Nat} (f : β → List Nat) (h : b < B) : OwnFrom B (fun (s : β) V => Fil0 V b sd (f s)) := fun s W W' row hs hg hr =>
  fil_keep hs (hg.block b (fil_lt hs) (fun e => by have := (hr b e.symm).1; omega))
theorem add_snoc (S : List Nat) (sd : Nat) (l : List UInt8) (pre : List Nat) (x : Nat) : addS S ((pre ++ [x]).map (placeN sd l)) = insS (addS S (pre.map (placeN sd l))) (placeN sd l x) := by
  simp [addS]
theorem boxes2a (w : World) (v : Value) (s : ByteArray) : ∃ V, (w.alloc (.cells #[v] 39)).alloc (.cells #[.string s] 9) = V ∧
    Boxed V w.heap.size 39 v ∧ Boxed V (w.heap.size + 1) 9 (.string s) ∧ w.grownBy V none := by
  refine ⟨_, rfl, ?_⟩
  have b0 := Boxed.new w 39 v
  have b1 := Boxed.new (w.alloc (.cells #[v] 39)) 9 (.string s)
  simp only [World.size_alloc] at b1
  exact ⟨b0.alloc _, b1, gr_trans (World.grownBy_alloc _ _ _) (World.grownBy_alloc _ _ _)⟩

set_option maxRecDepth 100000 in
set_option maxHeartbeats 4000000 in
theorem fil_add {w : World} {b sd : Nat} {S : List Nat} (hF : Fil0 w b sd S) (s : ByteArray) (hs : s.size ≤ 300) : Calls Try.prog 24 #[.pointer (some ⟨b, 0, none⟩), .string s] w fun e w' => e = .returned (.bool (hasS S (pls sd s.data.toList))) ∧ Fil0 w' b sd (addS S (pls sd s.data.toList)) ∧ w.grownBy w' (some b) := by
  refine (callsIn_wide (n := 6)).1 ?_
  have hlt := fil_lt hF
  have hg1 := World.grownBy_alloc w (.cells #[.pointer (some ⟨b, 0, none⟩)] 39) none
  have bF := Boxed.new w 39 (.pointer (some ⟨b, 0, none⟩))
  have HH := hide (fil_has (fil_keep hF (hg1.block b hlt (by simp))) s hs)
  have HS : Hid (addS S ((List.range 3).map (placeN sd s.data.toList)) = addS S (pls sd s.data.toList)) := rfl
  generalize hasS S (pls sd s.data.toList) = had at *
  refine callsIn_of_wp_marks Try.func24 rfl trivial ?_ rfl
  simp only [Try.ntmps24, List.size_toArray, List.length_cons, List.length_nil, Nat.reduceAdd, Nat.reduceSub, Array.replicate_succ, Array.replicate_zero, List.push_toArray, List.append_toArray, List.nil_append, List.cons_append]
  gi_wp2_with (first
    | (refine ⟨trivial, ?_⟩; gi_at_call 30; refine (callsIn_wide.2 HH.out).mono ?_; clear HH; rintro e w2 ⟨rfl, hF2, hg2⟩; have bF2 := bF.kept hg2 (by simp); have hcf2 := bF2.cell)
    | (refine ⟨trivial, ?_⟩; gi_at_call 33; refine (placesMk_in (6 - 1) b s _).mono ?_; rintro e w3 ⟨rfl, rfl⟩))
  obtain ⟨W0, hW0, bf2, bs, hgb⟩ := boxes2a w2 (.pointer (some ⟨b, 0, none⟩)) s
  rw [hW0]
  have hg0 : w.grownBy W0 none := gr_trans (gr_trans hg1 hg2) hgb
  have bf := bF2.kept hgb (by simp)
  have hF0 := fil_keep hF (hg0.block b hlt (by simp))
  have hbf := bf.lt
  have hbB := Nat.lt_of_lt_of_le hlt hg0.size
  have hne : w.heap.size ≠ b := Nat.ne_of_gt hlt
  clear hW0 hg1 hg2 hgb bF bF2 hcf2
  refine range_own rfl (by decide) (gf := 42) (lb := #[.pointer (some ⟨w2.heap.size, 0, none⟩), .pointer (some ⟨w2.heap.size + 1, 0, none⟩)]) rfl trivial (enters_of Try.func42 (by kernel_rfl) rfl)
    (places_own _ _ b sd s (Nat.le_trans hs (by decide)) W0 bf2.cell bs.cell (fil_seed hF0)) (Below.refl _ _) (fun _ => rfl)
    (fun pre V => Boxed V w.heap.size 39 (.pointer (some ⟨b, 0, none⟩)) ∧ (Fil0 V b sd (addS S (pre.map (placeN sd s.data.toList))) ∧ w.grownBy V (some b)))
    (fun _ _ _ => False)
    (OwnFrom.and (Own.from (boxed_own _ _ (fun _ => _)) _) (OwnFrom.and (own_fil _ hbB) (own_grown hg0.size)))
    (fun _ _ _ _ _ hs _ _ => hs)
    ⟨bf, hF0, gr_any hg0 _⟩ ?a1 ?assign ?body ?done ?stop
  case assign =>
    intro l2 x V K hK
    unfold plV
    gi_wp2
    exact hK
  case body =>
    rintro l2 pre x V ⟨hbv, hfv, hg⟩ hlen
    have hp := place_lt sd s.data.toList x
    obtain ⟨y, hcy, hfy, hy, hnew⟩ := fil_store hfv (placeN sd s.data.toList x) hp
    have hcf := hbv.cell
    have hB := bit_any (placeN sd s.data.toList x) hp
    have hsn := hide (add_snoc S sd s.data.toList pre x)
    generalize hP : placeN sd s.data.toList x = p at *
    have hm := two_pow_lt (Nat.mod_lt p (show 0 < 64 by decide))
    generalize 2 ^ (p % 64) = m at *
    obtain ⟨hq, hqt, hqw, hq8⟩ := quo_word p hp
    have hix := index_at b _ hq8
    generalize p / 64 = q at *
    have E : Value.int .u64 (bits .or .u64 (y : Int) (m : Int)) = .int .u64 ((y ||| m : Nat) : Int) := by rw [u64_or_nat y m hy hm]
    generalize y ||| m = z at *
    have HC : ∀ k : Nat, CallsIn Fence.wide (4 - 1) Try.prog 34 #[.int .i64 p] (V.drewN k) fun e w' => e = .returned (.int .u64 (m : Int)) ∧ w' = V.drewN k := fun k => (callsIn_wide.2 (hB _)).mono fun e w' h => ⟨h.1, h.2.symm⟩
    have hwf : ∀ f, Fence.wide.fn f := fun _ => trivial
    have HN := hide hnew
    clear hB hm hy hq8 hp hlen hnew
    gi_wp2
    refine region_tail 13 _ l2 rfl rfl (by kernel_rfl) (by kernel_rfl) ?_
    simp only [List.take_succ_cons, List.take_zero]
    repeat (gi_big_quiet_step ((gi_at_call 34; exact CallsIn.quiet_of_same (HC _))))
    refine wpQuietIn_nil ?_
    rintro _ ⟨nq, rfl⟩
    go_simp
    gi_wp2
    refine ⟨(since_drewN _ V nq).trans (since_set _ _ hbB), boxed_set hbv hne _, ?_, set_gr hg _⟩
    rw [hsn.out]
    exact HN.out nq
  case done =>
    rintro D ys V hD rfl ⟨hbv, hfv, hg⟩ hK
    rw [HS.out] at hfv
    have hDb : b ≠ D := Nat.ne_of_lt (Nat.lt_of_lt_of_le hbB hD)
    gi_wp2
    refine ⟨by simp, .inl ⟨_, _, rfl, run_takeDeferred hK, ?_⟩⟩
    exact ⟨_, results_tmp rfl _ _ _, rfl, fil_keep hfv (World.putObj_heap_other hDb), gr_new hg (grownBy_putObj' V D (.deferred none)) (Nat.le_trans hg0.size hD)⟩
  case stop =>
    rintro D c pre V _ _ h _
    exact h.elim

/-- The contracts of package bloom. -/
theorem bloom_lib : BloomLib Fil0 where
  lt := fil_lt
  good := fil_good
  keep := fil_keep
  new := fil_new
  add := fil_add
  has := fil_has
  clear := fil_clear
  copy := fil_copy
end Go.Proofs.Ytpjmhiokhoplmaa
