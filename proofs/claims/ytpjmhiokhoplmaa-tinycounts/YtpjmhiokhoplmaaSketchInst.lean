/- What Add of package sketch does, and with it all of the package's contracts. Conditions: the text takes at most 300 bytes. -/
import Derived.Test.YtpjmhiokhoplmaaSketchCount
namespace Go.Proofs.Ytpjmhiokhoplmaa
open Go.RowKit Go.Shelf
attribute [local go_sem] Oper.semAt_some

/-- What a byte gets more: one for its lower counter, sixteen for its upper one. -/
def upBy (p : Nat) : Nat := if p % 2 = 0 then 1 else 16
/-- The byte of a counter that may grow, and the sketch behind it. -/
theorem sk_store {w : World} {b sd a : Nat} {C : List Nat} (h : Sk0 w b sd (C, a)) (r p : Nat) (hr : r < 4) (hp : p < 64) (hc : C.getD (r * 64 + p) 0 < 15) : ∃ y : Nat, w.cell? ⟨b, 2 + 32 * r + p / 2, none⟩ = some (.int .u8 y) ∧ w.frozen? ⟨b, 2 + 32 * r + p / 2, none⟩ = false ∧ y + upBy p < 256 ∧
    ∀ k : Nat, Sk0 ((w.drewN k).setCell ⟨b, 2 + 32 * r + p / 2, none⟩ (.int .u8 ((y + upBy p : Nat) : Int))) b sd (inc C (r * 64 + p), a) := by
  obtain ⟨h1, h2, h3⟩ := h
  have hj : 32 * r + p / 2 < 128 := by omega
  have hg : r * 64 + p < 256 := by omega
  have e1 : (r * 64 + p) / 2 = 32 * r + p / 2 := by omega
  have e2 : (if (r * 64 + p) % 2 = 0 then 1 else 16) = upBy p := by
    unfold upBy
    have : (r * 64 + p) % 2 = p % 2 := by omega
    rw [this]
  have hn := nibble (C := C) h1.le r p
  have hlt := pk_lt (C := C) h1.le (32 * r + p / 2)
  refine ⟨pk C (32 * r + p / 2), ?_, blk_free h3 _, ?_, fun k => ⟨⟨?_, ?_, h1.age⟩, h2, ?_⟩⟩
  · have := blk_at h3 (32 * r + p / 2) (by rw [pack_len]; exact hj)
    rw [pack_getD _ _ hj, ← Nat.add_assoc] at this
    exact this
  · rw [← hn] at hc
    unfold upBy
    rcases Nat.mod_two_eq_zero_or_one p with h | h
    · rw [if_pos h] at hc ⊢
      omega
    · rw [if_neg (by omega)] at hc ⊢
      omega
  · exact (inc_len _ _).trans h1.len
  · exact inc_le _ _ h1.le
  · have := blk_set (w := w.drewN k) (blk_keep h3 rfl) (32 * r + p / 2) (pk C (32 * r + p / 2) + upBy p)
    rw [← Nat.add_assoc] at this
    show Blk _ b sd a (pack (inc C (r * 64 + p)))
    rw [pack_inc h1.len _ hg hc, e1, e2]
    exact this
theorem incs_snoc (C : List Nat) (sd : Nat) (l : List UInt8) (pre : List Nat) (x : Nat) : incs C ((pre ++ [x]).map (plcOf sd l)) = inc (incs C (pre.map (plcOf sd l))) (plcOf sd l x) := by
  simp [incs]
theorem own_sk {β : Type} {B b sd : Nat} (f : β → St) (h : b < B) : OwnFrom B (fun (s : β) V => Sk0 V b sd (f s)) := fun s W W' row hs hg hr =>
  sk_keep hs (hg.block b (sk_lt hs) (fun e => by have := (hr b e.symm).1; omega))
theorem boxes2k (w : World) (v : Value) (s : ByteArray) : ∃ V, ((w.alloc (.cells #[v] 41)).alloc (.cells #[v] 41)).alloc (.cells #[.string s] 9) = V ∧
    Boxed V w.heap.size 41 v ∧ Boxed V (w.heap.size + 1) 41 v ∧ Boxed V (w.heap.size + 1 + 1) 9 (.string s) ∧ w.grownBy V none := by
  refine ⟨_, rfl, ?_⟩
  have b0 := Boxed.new w 41 v
  have b1 := Boxed.new (w.alloc (.cells #[v] 41)) 41 v
  have b2 := Boxed.new ((w.alloc (.cells #[v] 41)).alloc (.cells #[v] 41)) 9 (.string s)
  simp only [World.size_alloc] at b1 b2
  exact ⟨(b0.alloc _).alloc _, b1.alloc _, b2, gr_trans (gr_trans (World.grownBy_alloc _ _ _) (World.grownBy_alloc _ _ _)) (World.grownBy_alloc _ _ _)⟩
theorem incs_good {st : St} (h : GoodK st) (ps : List Nat) : GoodK (incs st.1 ps, st.2) := ⟨(incs_len _ _).trans h.len, incs_le _ _ h.le, h.age⟩

theorem pack_lt {C : List Nat} (h : ∀ c ∈ C, c ≤ 15) : ∀ x ∈ pack C, x < 256 := fun x hx => by
  obtain ⟨j, _, rfl⟩ := List.mem_map.1 hx
  exact pk_lt h j
theorem addK_half (sd : Nat) (st : St) (l : List UInt8) (hh : halved st = true) (h : GoodK st) : pack (addK sd st l).1 = (pack (incs st.1 (plcs sd l))).map halfB ∧ (addK sd st l).2 = 320 := by
  unfold addK
  rw [if_pos hh]
  exact ⟨(pack_half (incs_le _ _ h.le)).symm, rfl⟩
theorem addK_plain (sd : Nat) (st : St) (l : List UInt8) (hh : halved st = false) : addK sd st l = (incs st.1 (plcs sd l), st.2 + 1) := by
  unfold addK
  rw [if_neg (by rw [hh]; decide)]

set_option maxRecDepth 100000 in
set_option maxHeartbeats 4000000 in
theorem sk_add {w : World} {b sd : Nat} {st : St} (hF : Sk0 w b sd st) (s : ByteArray) (hs : s.size ≤ 300) : Calls Try.prog 25 #[.pointer (some ⟨b, 0, none⟩), .string s] w fun e w' => e = .returned (.bool (halved st)) ∧ Sk0 w' b sd (addK sd st s.data.toList) ∧ w.grownBy w' (some b) := by
  refine (callsIn_wide (n := 6)).1 ?_
  have hlt := sk_lt hF
  have HS : Hid (incs st.1 ((List.range 4).map (plcOf sd s.data.toList)) = incs st.1 (plcs sd s.data.toList)) := rfl
  refine callsIn_of_wp_marks Try.func25 rfl trivial ?_ rfl
  simp only [Try.ntmps25, List.size_toArray, List.length_cons, List.length_nil, Nat.reduceAdd, Nat.reduceSub, Array.replicate_succ, Array.replicate_zero, List.push_toArray, List.append_toArray, List.nil_append, List.cons_append]
  gi_wp2_with (refine ⟨trivial, ?_⟩; gi_at_call 35; refine (placesKMk_in (6 - 1) b s _).mono ?_; rintro e w1 ⟨rfl, rfl⟩)
  obtain ⟨W0, hW0, bf, bf2, bs, hg0⟩ := boxes2k w (.pointer (some ⟨b, 0, none⟩)) s
  rw [hW0]
  clear hW0
  have hF0 := sk_keep hF (hg0.block b hlt (by simp))
  have hbB := Nat.lt_of_lt_of_le hlt hg0.size
  have hne : w.heap.size ≠ b := Nat.ne_of_gt hlt
  refine range_own rfl (by decide) (gf := 45) (lb := #[.pointer (some ⟨w.heap.size + 1, 0, none⟩), .pointer (some ⟨w.heap.size + 1 + 1, 0, none⟩)]) rfl trivial (enters_of Try.func45 (by kernel_rfl) rfl)
    (placesK_own _ _ b sd s (Nat.le_trans hs (by decide)) W0 bf2.cell bs.cell (blk_seed hF0.2.2)) (Below.refl _ _) (fun _ => rfl)
    (fun (pre : List Nat) V => Boxed V w.heap.size 41 (.pointer (some ⟨b, 0, none⟩)) ∧ (Sk0 V b sd (incs st.1 (pre.map (plcOf sd s.data.toList)), st.2) ∧ w.grownBy V (some b)))
    (fun _ _ _ => False)
    (OwnFrom.and (Own.from (boxed_own _ _ (fun _ => _)) _) (OwnFrom.and (own_sk (fun (pre : List Nat) => (incs st.1 (pre.map (plcOf sd s.data.toList)), st.2)) hbB) (own_grown hg0.size)))
    (fun _ _ _ _ _ hs _ _ => hs)
    ⟨bf, hF0, gr_any hg0 _⟩ ?a1 ?assign ?body ?done ?stop
  case assign =>
    intro l2 x V K hK
    unfold plKV
    gi_wp2
    exact hK
  case body =>
    rintro l2 pre x V ⟨hbf, hfv, hg⟩ hlen
    have hcf := hbf.cell
    have hp := plcR_lt sd s.data.toList (row4 x)
    have hr := row4_lt x
    have HI := hide (incs_snoc st.1 sd s.data.toList pre x)
    have HP := hide (plc_eq sd s.data.toList x)
    generalize incs st.1 (pre.map (plcOf sd s.data.toList)) = C at *
    generalize plcOf sd s.data.toList x = g at *
    generalize plcR sd s.data.toList (row4 x) = p at *
    generalize row4 x = r at *
    have HC := hide (callsIn_wide (n := 4 - 1).2 (sk_counter hfv r p hr hp))
    rw [HP.out] at HC
    have hwf : ∀ f, Fence.wide.fn f := fun _ => trivial
    have hmix : Try.prog.follows .mixedOrders = true := by kernel_rfl
    by_cases hc : C.getD g 0 < 15
    · obtain ⟨y, hcy, hfy, hy, hnew⟩ := sk_store hfv r p hr hp (by rw [HP.out]; exact hc)
      obtain ⟨hq, hqt, hqw, hq8⟩ := quo_half p hp
      have h1 := row_at b r hr
      have h2 := byte_at b (2 + 32 * r) _ hq8
      have hsh := shift_any p hp
      have hup : upBy p = if p % 2 = 0 then 1 else 16 := rfl
      have hm2 := Nat.mod_lt p (show 0 < 2 by decide)
      generalize upBy p = u at *
      generalize p % 2 = m2 at *
      generalize p / 2 = q at *
      have HN := hide hnew
      have hci : ((C.getD g 0 : Nat) : Int) < 15 := by omega
      generalize C.getD g 0 = c at *
      obtain rfl | rfl : m2 = 0 ∨ m2 = 1 := by omega
      · obtain rfl : u = 1 := hup
        have HD : ∀ (W : World) (k : Nat), CallsIn Fence.wide (4 - 1) Try.prog 37 #[.int .i64 p] (W.drewN k) fun e w' => e = .returned (.int .i64 0) ∧ w' = W.drewN k := fun W k => (callsIn_wide.2 (hsh _)).mono fun e w' h => ⟨h.1, h.2.symm⟩
        have E : IntKind.u8.wrap ((y : Int) + 1) = ((y + 1 : Nat) : Int) := by rw [IntKind.wrap_u8]; omega
        clear hm2 hsh hnew hc hq8 hr hp hlen hy hfv
        gi_wp2_with (gi_at_call 36; refine (CallsIn.inRound l2 HC.out).mono ?_; clear HC; rintro e w' ⟨rfl, m, rfl⟩)
        have hcf2 : (V.drewN m).cell? ⟨w.heap.size, 0, none⟩ = _ := hcf
        have hcy2 : (V.drewN m).cell? ⟨b, 2 + 32 * r + q, none⟩ = _ := hcy
        have hfy2 : (V.drewN m).frozen? ⟨b, 2 + 32 * r + q, none⟩ = _ := hfy
        generalize hV2 : V.drewN m = V2 at *
        refine region_tail 17 _ l2 rfl rfl (by kernel_rfl) (by kernel_rfl) ?_
        simp only [List.take_succ_cons, List.take_zero]
        repeat (gi_big_quiet_step ((gi_at_call 37; exact CallsIn.quiet_of_same (HD _ _))))
        refine wpQuietIn_nil ?_
        rintro _ ⟨nq, rfl⟩
        go_simp
        gi_wp2
        subst hV2
        have hnw := HN.out (m + nq)
        rw [← World.drewN_drewN, HP.out, ← HI.out] at hnw
        exact ⟨(since_drewN _ V m).trans ((since_drewN _ _ nq).trans (since_set _ _ hbB)), boxed_set (show Boxed (V.drewN m) _ _ _ from hbf) hne _, hnw, set_gr (gr_drewN hg m) _⟩
      · obtain rfl : u = 16 := hup
        have HD : ∀ (W : World) (k : Nat), CallsIn Fence.wide (4 - 1) Try.prog 37 #[.int .i64 p] (W.drewN k) fun e w' => e = .returned (.int .i64 4) ∧ w' = W.drewN k := fun W k => (callsIn_wide.2 (hsh _)).mono fun e w' h => ⟨h.1, h.2.symm⟩
        have E : IntKind.u8.wrap ((y : Int) + 16) = ((y + 16 : Nat) : Int) := by rw [IntKind.wrap_u8]; omega
        clear hm2 hsh hnew hc hq8 hr hp hlen hy hfv
        gi_wp2_with (gi_at_call 36; refine (CallsIn.inRound l2 HC.out).mono ?_; clear HC; rintro e w' ⟨rfl, m, rfl⟩)
        have hcf2 : (V.drewN m).cell? ⟨w.heap.size, 0, none⟩ = _ := hcf
        have hcy2 : (V.drewN m).cell? ⟨b, 2 + 32 * r + q, none⟩ = _ := hcy
        have hfy2 : (V.drewN m).frozen? ⟨b, 2 + 32 * r + q, none⟩ = _ := hfy
        generalize hV2 : V.drewN m = V2 at *
        refine region_tail 17 _ l2 rfl rfl (by kernel_rfl) (by kernel_rfl) ?_
        simp only [List.take_succ_cons, List.take_zero]
        repeat (gi_big_quiet_step ((gi_at_call 37; exact CallsIn.quiet_of_same (HD _ _))))
        refine wpQuietIn_nil ?_
        rintro _ ⟨nq, rfl⟩
        go_simp
        gi_wp2
        subst hV2
        have hnw := HN.out (m + nq)
        rw [← World.drewN_drewN, HP.out, ← HI.out] at hnw
        exact ⟨(since_drewN _ V m).trans ((since_drewN _ _ nq).trans (since_set _ _ hbB)), boxed_set (show Boxed (V.drewN m) _ _ _ from hbf) hne _, hnw, set_gr (gr_drewN hg m) _⟩
    · have HK := hide (pack_same (C := C) g hc)
      have hci : ¬ ((C.getD g 0 : Nat) : Int) < 15 := by omega
      generalize C.getD g 0 = c at *
      clear hc hr hp hlen
      gi_wp2_with (gi_at_call 36; refine (CallsIn.inRound l2 HC.out).mono ?_; clear HC; rintro e w' ⟨rfl, m, rfl⟩)
      refine ⟨since_drewN _ V m, hbf, ?_, gr_drewN hg m⟩
      rw [HI.out, HK.out]
      exact sk_keep hfv rfl
  case done =>
    rintro D ys V hD rfl ⟨hbv, hfv, hg⟩ hK
    rw [HS.out] at hfv
    have hDb : b ≠ D := Nat.ne_of_lt (Nat.lt_of_lt_of_le hbB hD)
    have hgd := hfv.1
    have hB := hfv.2.2
    have ha := hF.1.age
    have hcf := hbv.cell
    have hca := blk_age hB
    have hfa := blk_free hB 1
    have hB2 := blk_setAge hB (st.2 + 1)
    have hg2 := set_grown hg (o := 1) (.int .i64 ((st.2 + 1 : Nat) : Int))
    have hK2 := (Below.heap_setCell V ⟨b, 1, none⟩ (.int .i64 ((st.2 + 1 : Nat) : Int)) D (fun e => hDb e.symm)).trans hK
    have hcf2 : (V.setCell ⟨b, 1, none⟩ (.int .i64 ((st.2 + 1 : Nat) : Int))).cell? ⟨w.heap.size, 0, none⟩ = some (.pointer (some ⟨b, 0, none⟩)) := (World.cell?_of_block (w := V) (Below.heap_setCell V ⟨b, 1, none⟩ (.int .i64 ((st.2 + 1 : Nat) : Int)) w.heap.size (fun e => hne e))).trans hcf
    have hca2 := blk_age hB2
    have E : wrap64 ((st.2 : Int) + 1) = ((st.2 + 1 : Nat) : Int) := by unfold wrap64; omega
    have E2 : ((st.2 + 1 : Nat) : Int) = (st.2 : Int) + 1 := by omega
    rw [E2] at hB2 hg2 hK2
    clear E2
    have HB := hide hB2
    have HG := hide hg2
    have HX := hide hgd
    have HL := hide hfv.2.1
    have HW := hide hK2
    clear hB hB2 hg2 hgd hfv hg ha hbv hK2
    by_cases hh : 640 ≤ st.2 + 1
    · have hi : ¬ ((st.2 + 1 : Nat) : Int) < 640 := by omega
      have HH : Hid (halved st = true) := by show halved st = true; simp [halved, hh]
      have HV := hide (halve_any (w := V.setCell ⟨b, 1, none⟩ (.int .i64 ((st.2 : Int) + 1))) (pack_len _) (pack_lt HX.out.le) HB.out)
      have HA := hide (addK_half sd st s.data.toList HH.out hF.1)
      gi_wp2_with (refine ⟨trivial, ?_⟩; gi_at_call 38; refine (callsIn_wide.2 HV.out).mono ?_; rintro e w3 ⟨⟨v, rfl⟩, hB3, hg3⟩)
      have hK3 := (hg3.block D (Array.getElem?_eq_some_iff.1 HW.out).1 (fun e => hDb (Option.some.inj e).symm)).trans HW.out
      have hg4 := gr_new (gr_trans HG.out hg3) (grownBy_putObj' w3 D (.deferred none)) (Nat.le_trans hg0.size hD)
      refine ⟨by simp, .inl ⟨_, _, rfl, run_takeDeferred hK3, ?_⟩⟩
      exact ⟨_, results_tmp rfl _ _ _, by rw [HH.out]; rfl, ⟨good_addK hF.1 _ _, HL.out, blk_keep (by rw [HA.out.1, HA.out.2]; exact hB3) (World.putObj_heap_other hDb)⟩, hg4⟩
    · have hi : ((st.2 + 1 : Nat) : Int) < 640 := by omega
      have HH : Hid (halved st = false) := by show halved st = false; simp [halved, hh]
      have HA := hide (addK_plain sd st s.data.toList HH.out)
      clear hh
      gi_wp2
      have hg4 := gr_new HG.out (grownBy_putObj' _ D (.deferred none)) (Nat.le_trans hg0.size hD)
      refine ⟨by simp, .inl ⟨_, _, rfl, run_takeDeferred HW.out, ?_⟩⟩
      exact ⟨_, results_tmp rfl _ _ _, by rw [HH.out]; rfl, ⟨good_addK hF.1 _ _, HL.out, blk_keep (by rw [HA.out]; exact HB.out) (World.putObj_heap_other hDb)⟩, hg4⟩
  case stop =>
    rintro D c pre V _ _ h _
    exact h.elim

theorem sk_new (sd : Nat) (h : sd < 18446744073709551616) (w : World) : Calls Try.prog 20 #[.int .u64 sd] w fun e w' => ∃ b, e = .returned (.pointer (some ⟨b, 0, none⟩)) ∧ w.heap.size ≤ b ∧ Sk0 w' b sd fresh ∧ w.grownBy w' none := by
  refine (sketchNew_any sd w).mono ?_
  rintro e w' ⟨rfl, rfl⟩
  exact ⟨_, rfl, Nat.le_refl _, ⟨good_fresh, h, heap_alloc_new w _⟩, World.grownBy_alloc w _ none⟩
theorem sk_copy {w : World} {b sd : Nat} {st : St} (h : Sk0 w b sd st) : Calls Try.prog 23 #[.pointer (some ⟨b, 0, none⟩)] w fun e w' => ∃ b', e = .returned (.pointer (some ⟨b', 0, none⟩)) ∧ w.heap.size ≤ b' ∧ Sk0 w' b' sd st ∧ w.grownBy w' none := by
  refine (sketchCopy_any (pack_len _) h.2.2).mono ?_
  rintro e w' ⟨rfl, rfl⟩
  exact ⟨_, rfl, Nat.le_refl _, ⟨h.1, h.2.1, heap_alloc_new w _⟩, World.grownBy_alloc w _ none⟩
/-- The contracts of package sketch. -/
theorem sketch_lib : SketchLib Sk0 where
  lt := sk_lt
  good := sk_good
  keep := sk_keep
  new := sk_new
  add := sk_add
  count := sk_count
  copy := sk_copy
end Go.Proofs.Ytpjmhiokhoplmaa
