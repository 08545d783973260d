/- What Add of package sketch does, and with it all of the package's contracts. Conditions: the text takes at most 300 bytes. The contracts of package tiny, of the program as it stands. Conditions: none. Buckets of texts over lists alone: nothing of the program is run here. Conditions: none. -/
import Derived.Test.YtckjjfkfapfdaaaGreatG27Joined
import Derived.Test.YtckjjfkfapfdaaaGreatG23Joined
import Derived.Test.YtckjjfkfapfdaaaGreatG26Joined
import Derived.Test.YtckjjfkfapfdaaaGreatG05Joined
import Derived.Test.YtckjjfkfapfdaaaGreatG04Joined
namespace Go.Proofs.YtckjjfkfapfdaaaGreat
open Go.RowKit Go.Shelf
attribute [local go_sem] Oper.semAt_some

/-- What a byte gets more: one for its lower counter, sixteen for its upper one. -/
def upBy (p : Nat) : Nat := if p % 2 = 0 then 1 else 16
/-- The byte of a counter that may grow, and the sketch behind it. -/
theorem sk_store {w : World} {b sd a : Nat} {C : List Nat} (h : Sk0 w b sd (C, a)) (r p : Nat) (hr : r < 4) (hp : p < 64) (hc : C.getD (r * 64 + p) 0 < 15) : ∃ y : Nat, w.cell? ⟨b, 2 + 32 * r + p / 2, none⟩ = some (.int .u8 y) ∧ w.frozen? ⟨b, 2 + 32 * r + p / 2, none⟩ = false ∧ y + upBy p < 256 ∧
    ∀ k : Nat, Sk0 ((w.drewN k).setCell ⟨b, 2 + 32 * r + p / 2, none⟩ (.int .u8 ((y + upBy p : Nat) : Int))) b sd (inc C (r * 64 + p), a) := by
  obtain ⟨h1, h2, h3⟩ := h
  have hj : 32 * r + p / 2 < 128 := by omega
  have hg : r * 64 + p < 256 := by omega
  have e1 : (r * 64 + p) / 2 = 32 * r + p / 2 := by omega
  have e2 : (if (r * 64 + p) % 2 = 0 then 1 else 16) = upBy p := by
    unfold upBy
    have : (r * 64 + p) % 2 = p % 2 := by omega
    rw [this]
  have hn := nibble (C := C) h1.le r p
  have hlt := pk_lt (C := C) h1.le (32 * r + p / 2)
  refine ⟨pk C (32 * r + p / 2), ?_, blk_free h3 _, ?_, fun k => ⟨⟨?_, ?_, h1.age⟩, h2, ?_⟩⟩
  · have := blk_at h3 (32 * r + p / 2) (by rw [pack_len]; exact hj)
    rw [pack_getD _ _ hj, ← Nat.add_assoc] at this
    exact this
  · rw [← hn] at hc
    unfold upBy
    rcases Nat.mod_two_eq_zero_or_one p with h | h
    · rw [if_pos h] at hc ⊢
      omega
    · rw [if_neg (by omega)] at hc ⊢
      omega
  · exact (inc_len _ _).trans h1.len
  · exact inc_le _ _ h1.le
  · have := blk_set (w := w.drewN k) (blk_keep h3 rfl) (32 * r + p / 2) (pk C (32 * r + p / 2) + upBy p)
    rw [← Nat.add_assoc] at this
    show Blk _ b sd a (pack (inc C (r * 64 + p)))
    rw [pack_inc h1.len _ hg hc, e1, e2]
    exact this
theorem incs_snoc (C : List Nat) (sd : Nat) (l : List UInt8) (pre : List Nat) (x : Nat) : incs C ((pre ++ [x]).map (plcOf sd l)) = inc (incs C (pre.map (plcOf sd l))) (plcOf sd l x) := by
  simp [incs]
theorem own_sk {β : Type} {B b sd : Nat} (f : β → St) (h : b < B) : OwnFrom B (fun (s : β) V => Sk0 V b sd (f s)) := fun s W W' row hs hg hr =>
  sk_keep hs (hg.block b (sk_lt hs) (fun e => by have := (hr b e.symm).1; omega))
theorem boxes2k (w : World) (v : Value) (s : ByteArray) : ∃ V, ((w.alloc (.cells #[v] 124)).alloc (.cells #[v] 124)).alloc (.cells #[.string s] 9) = V ∧
    Boxed V w.heap.size 124 v ∧ Boxed V (w.heap.size + 1) 124 v ∧ Boxed V (w.heap.size + 1 + 1) 9 (.string s) ∧ w.grownBy V none := by
  refine ⟨_, rfl, ?_⟩
  have b0 := Boxed.new w 124 v
  have b1 := Boxed.new (w.alloc (.cells #[v] 124)) 124 v
  have b2 := Boxed.new ((w.alloc (.cells #[v] 124)).alloc (.cells #[v] 124)) 9 (.string s)
  simp only [World.size_alloc] at b1 b2
  exact ⟨(b0.alloc _).alloc _, b1.alloc _, b2, gr_trans (gr_trans (World.grownBy_alloc _ _ _) (World.grownBy_alloc _ _ _)) (World.grownBy_alloc _ _ _)⟩
theorem incs_good {st : St} (h : GoodK st) (ps : List Nat) : GoodK (incs st.1 ps, st.2) := ⟨(incs_len _ _).trans h.len, incs_le _ _ h.le, h.age⟩

theorem pack_lt {C : List Nat} (h : ∀ c ∈ C, c ≤ 15) : ∀ x ∈ pack C, x < 256 := fun x hx => by
  obtain ⟨j, _, rfl⟩ := List.mem_map.1 hx
  exact pk_lt h j
theorem addK_half (sd : Nat) (st : St) (l : List UInt8) (hh : halved st = true) (h : GoodK st) : pack (addK sd st l).1 = (pack (incs st.1 (plcs sd l))).map halfB ∧ (addK sd st l).2 = 320 := by
  unfold addK
  rw [if_pos hh]
  exact ⟨(pack_half (incs_le _ _ h.le)).symm, rfl⟩
theorem addK_plain (sd : Nat) (st : St) (l : List UInt8) (hh : halved st = false) : addK sd st l = (incs st.1 (plcs sd l), st.2 + 1) := by
  unfold addK
  rw [if_neg (by rw [hh]; decide)]

set_option maxRecDepth 100000 in
set_option maxHeartbeats 4000000 in
theorem sk_add {w : World} {b sd : Nat} {st : St} (hF : Sk0 w b sd st) (s : ByteArray) (hs : s.size ≤ 300) : Calls Tryz.prog 76 #[.pointer (some ⟨b, 0, none⟩), .string s] w fun e w' => e = .returned (.bool (halved st)) ∧ Sk0 w' b sd (addK sd st s.data.toList) ∧ w.grownBy w' (some b) := by
  refine (callsIn_wide (n := 6)).1 ?_
  have hlt := sk_lt hF
  have HS : Hid (incs st.1 ((List.range 4).map (plcOf sd s.data.toList)) = incs st.1 (plcs sd s.data.toList)) := rfl
  refine callsIn_of_wp_marks Tryz.func76 rfl trivial ?_ rfl
  simp only [Tryz.ntmps76, List.size_toArray, List.length_cons, List.length_nil, Nat.reduceAdd, Nat.reduceSub, Array.replicate_succ, Array.replicate_zero, List.push_toArray, List.append_toArray, List.nil_append, List.cons_append]
  gi_wp2_with (refine ⟨trivial, ?_⟩; gi_at_call 109; refine (placesKMk_in (6 - 1) b s _).mono ?_; rintro e w1 ⟨rfl, rfl⟩)
  obtain ⟨W0, hW0, bf, bf2, bs, hg0⟩ := boxes2k w (.pointer (some ⟨b, 0, none⟩)) s
  rw [hW0]
  clear hW0
  have hF0 := sk_keep hF (hg0.block b hlt (by simp))
  have hbB := Nat.lt_of_lt_of_le hlt hg0.size
  have hne : w.heap.size ≠ b := Nat.ne_of_gt hlt
  refine range_own rfl (by decide) (gf := 135) (lb := #[.pointer (some ⟨w.heap.size + 1, 0, none⟩), .pointer (some ⟨w.heap.size + 1 + 1, 0, none⟩)]) rfl trivial (enters_of Tryz.func135 (by kernel_rfl) rfl)
    (placesK_own _ _ b sd s (Nat.le_trans hs (by decide)) W0 bf2.cell bs.cell (blk_seed hF0.2.2)) (Below.refl _ _) (fun _ => rfl)
    (fun (pre : List Nat) V => Boxed V w.heap.size 124 (.pointer (some ⟨b, 0, none⟩)) ∧ (Sk0 V b sd (incs st.1 (pre.map (plcOf sd s.data.toList)), st.2) ∧ w.grownBy V (some b)))
    (fun _ _ _ => False)
    (OwnFrom.and (Own.from (boxed_own _ _ (fun _ => _)) _) (OwnFrom.and (own_sk (fun (pre : List Nat) => (incs st.1 (pre.map (plcOf sd s.data.toList)), st.2)) hbB) (own_grown hg0.size)))
    (fun _ _ _ _ _ hs _ _ => hs)
    ⟨bf, hF0, gr_any hg0 _⟩ ?a1 ?assign ?body ?done ?stop
  case assign =>
    intro l2 x V K hK
    unfold plKV
    gi_wp2
    exact hK
  case body =>
    rintro l2 pre x V ⟨hbf, hfv, hg⟩ hlen
    have hcf := hbf.cell
    have hp := plcR_lt sd s.data.toList (row4 x)
    have hr := row4_lt x
    have HI := hide (incs_snoc st.1 sd s.data.toList pre x)
    have HP := hide (plc_eq sd s.data.toList x)
    generalize incs st.1 (pre.map (plcOf sd s.data.toList)) = C at *
    generalize plcOf sd s.data.toList x = g at *
    generalize plcR sd s.data.toList (row4 x) = p at *
    generalize row4 x = r at *
    have HC := hide (callsIn_wide (n := 4 - 1).2 (sk_counter hfv r p hr hp))
    rw [HP.out] at HC
    have hwf : ∀ f, Fence.wide.fn f := fun _ => trivial
    have hmix : Tryz.prog.follows .mixedOrders = true := by kernel_rfl
    by_cases hc : C.getD g 0 < 15
    · obtain ⟨y, hcy, hfy, hy, hnew⟩ := sk_store hfv r p hr hp (by rw [HP.out]; exact hc)
      obtain ⟨hq, hqt, hqw, hq8⟩ := quo_half p hp
      have h1 := row_at b r hr
      have h2 := byte_at b (2 + 32 * r) _ hq8
      have hsh := shift_any p hp
      have hup : upBy p = if p % 2 = 0 then 1 else 16 := rfl
      have hm2 := Nat.mod_lt p (show 0 < 2 by decide)
      generalize upBy p = u at *
      generalize p % 2 = m2 at *
      generalize p / 2 = q at *
      have HN := hide hnew
      have hci : ((C.getD g 0 : Nat) : Int) < 15 := by omega
      generalize C.getD g 0 = c at *
      obtain rfl | rfl : m2 = 0 ∨ m2 = 1 := by omega
      · obtain rfl : u = 1 := hup
        have HD : ∀ (W : World) (k : Nat), CallsIn Fence.wide (4 - 1) Tryz.prog 111 #[.int .i64 p] (W.drewN k) fun e w' => e = .returned (.int .i64 0) ∧ w' = W.drewN k := fun W k => (callsIn_wide.2 (hsh _)).mono fun e w' h => ⟨h.1, h.2.symm⟩
        have E : IntKind.u8.wrap ((y : Int) + 1) = ((y + 1 : Nat) : Int) := by rw [IntKind.wrap_u8]; omega
        clear hm2 hsh hnew hc hq8 hr hp hlen hy hfv
        gi_wp2_with (gi_at_call 110; refine (CallsIn.inRound l2 HC.out).mono ?_; clear HC; rintro e w' ⟨rfl, m, rfl⟩)
        have hcf2 : (V.drewN m).cell? ⟨w.heap.size, 0, none⟩ = _ := hcf
        have hcy2 : (V.drewN m).cell? ⟨b, 2 + 32 * r + q, none⟩ = _ := hcy
        have hfy2 : (V.drewN m).frozen? ⟨b, 2 + 32 * r + q, none⟩ = _ := hfy
        generalize hV2 : V.drewN m = V2 at *
        refine region_tail 17 _ l2 rfl rfl (by kernel_rfl) (by kernel_rfl) ?_
        simp only [List.take_succ_cons, List.take_zero]
        repeat (gi_big_quiet_step ((gi_at_call 111; exact CallsIn.quiet_of_same (HD _ _))))
        refine wpQuietIn_nil ?_
        rintro _ ⟨nq, rfl⟩
        go_simp
        gi_wp2
        subst hV2
        have hnw := HN.out (m + nq)
        rw [← World.drewN_drewN, HP.out, ← HI.out] at hnw
        exact ⟨(since_drewN _ V m).trans ((since_drewN _ _ nq).trans (since_set _ _ hbB)), boxed_set (show Boxed (V.drewN m) _ _ _ from hbf) hne _, hnw, set_gr (gr_drewN hg m) _⟩
      · obtain rfl : u = 16 := hup
        have HD : ∀ (W : World) (k : Nat), CallsIn Fence.wide (4 - 1) Tryz.prog 111 #[.int .i64 p] (W.drewN k) fun e w' => e = .returned (.int .i64 4) ∧ w' = W.drewN k := fun W k => (callsIn_wide.2 (hsh _)).mono fun e w' h => ⟨h.1, h.2.symm⟩
        have E : IntKind.u8.wrap ((y : Int) + 16) = ((y + 16 : Nat) : Int) := by rw [IntKind.wrap_u8]; omega
        clear hm2 hsh hnew hc hq8 hr hp hlen hy hfv
        gi_wp2_with (gi_at_call 110; refine (CallsIn.inRound l2 HC.out).mono ?_; clear HC; rintro e w' ⟨rfl, m, rfl⟩)
        have hcf2 : (V.drewN m).cell? ⟨w.heap.size, 0, none⟩ = _ := hcf
        have hcy2 : (V.drewN m).cell? ⟨b, 2 + 32 * r + q, none⟩ = _ := hcy
        have hfy2 : (V.drewN m).frozen? ⟨b, 2 + 32 * r + q, none⟩ = _ := hfy
        generalize hV2 : V.drewN m = V2 at *
        refine region_tail 17 _ l2 rfl rfl (by kernel_rfl) (by kernel_rfl) ?_
        simp only [List.take_succ_cons, List.take_zero]
        repeat (gi_big_quiet_step ((gi_at_call 111; exact CallsIn.quiet_of_same (HD _ _))))
        refine wpQuietIn_nil ?_
        rintro _ ⟨nq, rfl⟩
        go_simp
        gi_wp2
        subst hV2
        have hnw := HN.out (m + nq)
        rw [← World.drewN_drewN, HP.out, ← HI.out] at hnw
        exact ⟨(since_drewN _ V m).trans ((since_drewN _ _ nq).trans (since_set _ _ hbB)), boxed_set (show Boxed (V.drewN m) _ _ _ from hbf) hne _, hnw, set_gr (gr_drewN hg m) _⟩
    · have HK := hide (pack_same (C := C) g hc)
      have hci : ¬ ((C.getD g 0 : Nat) : Int) < 15 := by omega
      generalize C.getD g 0 = c at *
      clear hc hr hp hlen
      gi_wp2_with (gi_at_call 110; refine (CallsIn.inRound l2 HC.out).mono ?_; clear HC; rintro e w' ⟨rfl, m, rfl⟩)
      refine ⟨since_drewN _ V m, hbf, ?_, gr_drewN hg m⟩
      rw [HI.out, HK.out]
      exact sk_keep hfv rfl
  case done =>
    rintro D ys V hD rfl ⟨hbv, hfv, hg⟩ hK
    rw [HS.out] at hfv
    have hDb : b ≠ D := Nat.ne_of_lt (Nat.lt_of_lt_of_le hbB hD)
    have hgd := hfv.1
    have hB := hfv.2.2
    have ha := hF.1.age
    have hcf := hbv.cell
    have hca := blk_age hB
    have hfa := blk_free hB 1
    have hB2 := blk_setAge hB (st.2 + 1)
    have hg2 := set_grown hg (o := 1) (.int .i64 ((st.2 + 1 : Nat) : Int))
    have hK2 := (Below.heap_setCell V ⟨b, 1, none⟩ (.int .i64 ((st.2 + 1 : Nat) : Int)) D (fun e => hDb e.symm)).trans hK
    have hcf2 : (V.setCell ⟨b, 1, none⟩ (.int .i64 ((st.2 + 1 : Nat) : Int))).cell? ⟨w.heap.size, 0, none⟩ = some (.pointer (some ⟨b, 0, none⟩)) := (World.cell?_of_block (w := V) (Below.heap_setCell V ⟨b, 1, none⟩ (.int .i64 ((st.2 + 1 : Nat) : Int)) w.heap.size (fun e => hne e))).trans hcf
    have hca2 := blk_age hB2
    have E : wrap64 ((st.2 : Int) + 1) = ((st.2 + 1 : Nat) : Int) := by unfold wrap64; omega
    have E2 : ((st.2 + 1 : Nat) : Int) = (st.2 : Int) + 1 := by omega
    rw [E2] at hB2 hg2 hK2
    clear E2
    have HB := hide hB2
    have HG := hide hg2
    have HX := hide hgd
    have HL := hide hfv.2.1
    have HW := hide hK2
    clear hB hB2 hg2 hgd hfv hg ha hbv hK2
    by_cases hh : 640 ≤ st.2 + 1
    · have hi : ¬ ((st.2 + 1 : Nat) : Int) < 640 := by omega
      have HH : Hid (halved st = true) := by show halved st = true; simp [halved, hh]
      have HV := hide (halve_any (w := V.setCell ⟨b, 1, none⟩ (.int .i64 ((st.2 : Int) + 1))) (pack_len _) (pack_lt HX.out.le) HB.out)
      have HA := hide (addK_half sd st s.data.toList HH.out hF.1)
      gi_wp2_with (refine ⟨trivial, ?_⟩; gi_at_call 112; refine (callsIn_wide.2 HV.out).mono ?_; rintro e w3 ⟨⟨v, rfl⟩, hB3, hg3⟩)
      have hK3 := (hg3.block D (Array.getElem?_eq_some_iff.1 HW.out).1 (fun e => hDb (Option.some.inj e).symm)).trans HW.out
      have hg4 := gr_new (gr_trans HG.out hg3) (grownBy_putObj' w3 D (.deferred none)) (Nat.le_trans hg0.size hD)
      refine ⟨by simp, .inl ⟨_, _, rfl, run_takeDeferred hK3, ?_⟩⟩
      exact ⟨_, results_tmp rfl _ _ _, by rw [HH.out]; rfl, ⟨good_addK hF.1 _ _, HL.out, blk_keep (by rw [HA.out.1, HA.out.2]; exact hB3) (World.putObj_heap_other hDb)⟩, hg4⟩
    · have hi : ((st.2 + 1 : Nat) : Int) < 640 := by omega
      have HH : Hid (halved st = false) := by show halved st = false; simp [halved, hh]
      have HA := hide (addK_plain sd st s.data.toList HH.out)
      clear hh
      gi_wp2
      have hg4 := gr_new HG.out (grownBy_putObj' _ D (.deferred none)) (Nat.le_trans hg0.size hD)
      refine ⟨by simp, .inl ⟨_, _, rfl, run_takeDeferred HW.out, ?_⟩⟩
      exact ⟨_, results_tmp rfl _ _ _, by rw [HH.out]; rfl, ⟨good_addK hF.1 _ _, HL.out, blk_keep (by rw [HA.out]; exact HB.out) (World.putObj_heap_other hDb)⟩, hg4⟩
  case stop =>
    rintro D c pre V _ _ h _
    exact h.elim

theorem sk_new (sd : Nat) (h : sd < 18446744073709551616) (w : World) : Calls Tryz.prog 59 #[.int .u64 sd] w fun e w' => ∃ b, e = .returned (.pointer (some ⟨b, 0, none⟩)) ∧ w.heap.size ≤ b ∧ Sk0 w' b sd fresh ∧ w.grownBy w' none := by
  refine (sketchNew_any sd w).mono ?_
  rintro e w' ⟨rfl, rfl⟩
  exact ⟨_, rfl, Nat.le_refl _, ⟨good_fresh, h, heap_alloc_new w _⟩, World.grownBy_alloc w _ none⟩
/-- The contracts of package sketch. -/
theorem sketch_lib : SketchLib Sk0 where
  lt := sk_lt
  good := sk_good
  keep := sk_keep
  new := sk_new
  add := sk_add
  count := sk_count
end Go.Proofs.YtckjjfkfapfdaaaGreat

namespace Go.Proofs.YtckjjfkfapfdaaaGreat
theorem tiny_lib : TinyLib (Jd0 Fil0 Sk0) := tiny_of bloom_lib sketch_lib
end Go.Proofs.YtckjjfkfapfdaaaGreat

namespace Go.Proofs.YtckjjfkfapfdaaaGreat

def updF {α : Type} (f : Nat → α) (i : Nat) (x : α) : Nat → α := fun j => if j = i then x else f j
theorem updF_same {α : Type} (f : Nat → α) (i : Nat) (x : α) : updF f i x i = x := if_pos rfl
theorem updF_other {α : Type} (f : Nat → α) {i j : Nat} (x : α) (h : j ≠ i) : updF f i x j = f j := if_neg h
theorem updF_self {α : Type} (f : Nat → α) (i : Nat) : updF f i (f i) = f := by
  funext j
  unfold updF
  split
  · rename_i h
    rw [h]
  · rfl
/-- What the first n buckets have. -/
def flatN (n : Nat) (B : Nat → List Kv) : List Kv := (List.range n).flatMap B
theorem flat_succ (n : Nat) (B : Nat → List Kv) : flatN (n + 1) B = flatN n B ++ B n := by simp [flatN, List.range_succ]
theorem flat_congr {f g : Nat → List Kv} : ∀ {n : Nat}, (∀ i, i < n → f i = g i) → flatN n f = flatN n g
  | 0, _ => rfl
  | n + 1, h => by rw [flat_succ, flat_succ, flat_congr (fun i hi => h i (Nat.lt_succ_of_lt hi)), h n (Nat.lt_succ_self n)]
theorem mem_flat {n : Nat} {B : Nat → List Kv} {p : Kv} : p ∈ flatN n B ↔ ∃ i, i < n ∧ p ∈ B i := by simp [flatN]
theorem flat_none (n : Nat) : flatN n (fun _ => []) = [] := by
  induction n with
  | zero => rfl
  | succ n ih => rw [flat_succ, ih]; rfl
theorem flat_pick (B : Nat → List Kv) (j : Nat) : ∀ n, j < n → ∃ rest, ∀ L, (flatN n (updF B j L)).Perm (L ++ rest)
  | 0, h => absurd h (Nat.not_lt_zero _)
  | n + 1, h => by
    by_cases e : j = n
    · subst e
      refine ⟨flatN j B, fun L => ?_⟩
      rw [flat_succ, updF_same, flat_congr (g := B) (fun i hi => updF_other B L (Nat.ne_of_lt hi))]
      exact List.perm_append_comm
    · obtain ⟨rest, hr⟩ := flat_pick B j n (by omega)
      refine ⟨rest ++ B n, fun L => ?_⟩
      rw [flat_succ, updF_other B L (Ne.symm e), ← List.append_assoc]
      exact (hr L).append_right _
def NodupK (l : List Kv) : Prop := (l.map (·.1)).Nodup
theorem nodup_of {l : List Kv} (h : NodupK l) : l.Nodup := by
  unfold NodupK List.Nodup at h
  rw [List.pairwise_map] at h
  exact List.Pairwise.imp (fun hab e => hab (by rw [e])) h
theorem rising_nodup {l : List Kv} (h : Rising l) : NodupK l := by
  unfold NodupK List.Nodup
  rw [List.pairwise_map]
  exact List.Pairwise.imp (fun hab => ltK_ne hab) h
theorem NodupK.perm {a b : List Kv} (h : NodupK a) (hp : a.Perm b) : NodupK b := (hp.map _).nodup_iff.1 h
theorem perm_mem {a b : List Kv} (ha : NodupK a) (hb : NodupK b) (h : ∀ p, p ∈ a ↔ p ∈ b) : a.Perm b := (List.perm_ext_iff_of_nodup (nodup_of ha) (nodup_of hb)).2 h
theorem head_ne {k : ByteArray} {x : Int} {o : List Kv} (h : NodupK ((k, x) :: o)) : ∀ p ∈ o, p.1 ≠ k := by
  unfold NodupK at h
  rw [List.map_cons, List.nodup_cons] at h
  exact fun p hp e => h.1 (List.mem_map.2 ⟨p, hp, e⟩)
theorem put_there {l o : List Kv} {k : ByteArray} {x v : Int} (hr : Rising l) (hp : l.Perm ((k, x) :: o)) : (putL k v l).Perm ((k, v) :: o) := by
  have hn := (rising_nodup hr).perm hp
  have hne := head_ne hn
  refine perm_mem (rising_nodup (rising_put hr)) hn fun p => ?_
  rw [mem_putL hr, hp.mem_iff]
  simp only [List.mem_cons]
  constructor
  · rintro (h | ⟨h | h, hk⟩)
    · exact .inl h
    · exact absurd (by rw [h]) hk
    · exact .inr h
  · rintro (h | h)
    · exact .inl h
    · exact .inr ⟨.inr h, hne p h⟩
theorem put_anew {l : List Kv} {k : ByteArray} {v : Int} (hr : Rising l) (hn : ∀ p ∈ l, p.1 ≠ k) : (putL k v l).Perm ((k, v) :: l) := by
  refine perm_mem (rising_nodup (rising_put hr)) ?_ fun p => ?_
  · unfold NodupK
    rw [List.map_cons, List.nodup_cons]
    refine ⟨fun h => ?_, rising_nodup hr⟩
    obtain ⟨p, hp, e⟩ := List.mem_map.1 h
    exact hn p hp e
  · rw [mem_putL hr]
    simp only [List.mem_cons]
    exact ⟨fun h => h.imp id fun h => h.1, fun h => h.imp id fun h => ⟨h, hn p h⟩⟩
theorem del_there {l o : List Kv} {k : ByteArray} {x : Int} (hr : Rising l) (hp : l.Perm ((k, x) :: o)) : (delL k l).Perm o := by
  have hne := head_ne ((rising_nodup hr).perm hp)
  refine (hp.filter _).trans ?_
  rw [List.filter_cons_of_neg (by simp), List.filter_eq_self.2 (fun p h => by simpa using hne p h)]
theorem delL_none {l : List Kv} {k : ByteArray} (hn : ∀ p ∈ l, p.1 ≠ k) : delL k l = l := List.filter_eq_self.2 fun p h => by simpa using hn p h
theorem get_there {l : List Kv} {k : ByteArray} {x : Int} (hn : NodupK l) (h : (k, x) ∈ l) : getL k l = some x := by
  obtain ⟨a, b, rfl⟩ := List.append_of_mem h
  have hne := head_ne (hn.perm List.perm_middle)
  unfold getL
  rw [List.find?_append]
  have : a.find? (fun p => decide (p.1 = k)) = none := List.find?_eq_none.2 fun p hp => by simpa using hne p (List.mem_append_left _ hp)
  rw [this]
  simp
theorem get_none {l : List Kv} {k : ByteArray} (hn : ∀ p ∈ l, p.1 ≠ k) : getL k l = none := by
  unfold getL
  rw [List.find?_eq_none.2 fun p hp => by simpa using hn p hp]
  rfl
/-! In one bucket. -/
def bput (k : ByteArray) (v : Int) : List Kv → List Kv
  | [] => [(k, v)]
  | p :: l => if p.1 = k then (k, v) :: l else p :: bput k v l
def bdel (k : ByteArray) : List Kv → List Kv
  | [] => []
  | p :: l => if p.1 = k then l else p :: bdel k l
def bhas (k : ByteArray) (l : List Kv) : Bool := l.any fun p => decide (p.1 = k)
theorem b_cases (k : ByteArray) : ∀ l : List Kv, (∃ pre x post, l = pre ++ (k, x) :: post ∧ ∀ p ∈ pre, p.1 ≠ k) ∨ ∀ p ∈ l, p.1 ≠ k
  | [] => .inr (by simp)
  | (a, x) :: l => by
    by_cases e : a = k
    · subst e
      exact .inl ⟨[], x, l, rfl, by simp⟩
    · rcases b_cases k l with ⟨pre, y, post, rfl, h⟩ | h
      · refine .inl ⟨(a, x) :: pre, y, post, rfl, fun p hp => ?_⟩
        rcases List.mem_cons.1 hp with rfl | hp
        · exact e
        · exact h p hp
      · refine .inr fun p hp => ?_
        rcases List.mem_cons.1 hp with rfl | hp
        · exact e
        · exact h p hp
theorem bput_hit {k : ByteArray} {x v : Int} {post : List Kv} : ∀ {pre : List Kv}, (∀ p ∈ pre, p.1 ≠ k) → bput k v (pre ++ (k, x) :: post) = pre ++ (k, v) :: post
  | [], _ => by simp [bput]
  | p :: l, h => by
    rw [List.cons_append]
    unfold bput
    rw [if_neg (h p List.mem_cons_self), bput_hit fun q hq => h q (List.mem_cons_of_mem _ hq)]
    rfl
theorem bput_miss {k : ByteArray} {v : Int} : ∀ {l : List Kv}, (∀ p ∈ l, p.1 ≠ k) → bput k v l = l ++ [(k, v)]
  | [], _ => rfl
  | p :: l, h => by
    unfold bput
    rw [if_neg (h p List.mem_cons_self), bput_miss fun q hq => h q (List.mem_cons_of_mem _ hq)]
    rfl
theorem bdel_hit {k : ByteArray} {x : Int} {post : List Kv} : ∀ {pre : List Kv}, (∀ p ∈ pre, p.1 ≠ k) → bdel k (pre ++ (k, x) :: post) = pre ++ post
  | [], _ => by simp [bdel]
  | p :: l, h => by
    rw [List.cons_append]
    unfold bdel
    rw [if_neg (h p List.mem_cons_self), bdel_hit fun q hq => h q (List.mem_cons_of_mem _ hq)]
    rfl
theorem bdel_miss {k : ByteArray} : ∀ {l : List Kv}, (∀ p ∈ l, p.1 ≠ k) → bdel k l = l
  | [], _ => rfl
  | p :: l, h => by
    unfold bdel
    rw [if_neg (h p List.mem_cons_self), bdel_miss fun q hq => h q (List.mem_cons_of_mem _ hq)]
theorem bhas_hit {k : ByteArray} {x : Int} {pre post : List Kv} : bhas k (pre ++ (k, x) :: post) = true := by simp [bhas]
theorem bhas_miss {k : ByteArray} {l : List Kv} (h : ∀ p ∈ l, p.1 ≠ k) : bhas k l = false := by
  unfold bhas
  rw [List.any_eq_false]
  exact fun p hp => by simpa using h p hp
theorem mem_bput {k : ByteArray} {v : Int} {l : List Kv} {p : Kv} (h : p ∈ bput k v l) : p.1 = k ∨ p ∈ l := by
  rcases b_cases k l with ⟨pre, x, post, rfl, hp⟩ | hn
  · rw [bput_hit hp] at h
    rcases List.mem_append.1 h with h | h
    · exact .inr (List.mem_append_left _ h)
    · rcases List.mem_cons.1 h with rfl | h
      · exact .inl rfl
      · exact .inr (List.mem_append_right _ (List.mem_cons_of_mem _ h))
  · rw [bput_miss hn] at h
    rcases List.mem_append.1 h with h | h
    · exact .inr h
    · rw [List.mem_singleton.1 h]
      exact .inl rfl
theorem mem_bdel {k : ByteArray} {l : List Kv} {p : Kv} (h : p ∈ bdel k l) : p ∈ l := by
  rcases b_cases k l with ⟨pre, x, post, rfl, hp⟩ | hn
  · rw [bdel_hit hp] at h
    rcases List.mem_append.1 h with h | h
    · exact List.mem_append_left _ h
    · exact List.mem_append_right _ (List.mem_cons_of_mem _ h)
  · rwa [bdel_miss hn] at h
theorem mid_perm (pre : List Kv) (a : Kv) (post rest : List Kv) : ((pre ++ a :: post) ++ rest).Perm (a :: (pre ++ post ++ rest)) := by
  rw [List.append_assoc, List.append_assoc, List.cons_append]
  exact List.perm_middle
/-- A text stands in one bucket L alone, beside what all others have. -/
structure OneB (l L : List Kv) (k : ByteArray) : Prop where
  rise : Rising l
  only : ∀ p ∈ l, p.1 = k → p ∈ L
theorem oneB_put {l L rest : List Kv} {k : ByteArray} (h : OneB l L k) (v : Int) (hp : l.Perm (L ++ rest)) : (bput k v L ++ rest).Perm (putL k v l) ∧ (putL k v l).length = l.length + (if bhas k L then 0 else 1) := by
  rcases b_cases k L with ⟨pre, x, post, rfl, hpre⟩ | hn
  · have h1 := put_there (v := v) h.rise (hp.trans (mid_perm _ _ _ _))
    have h2 := hp.trans (mid_perm _ _ _ _)
    rw [bput_hit hpre, bhas_hit]
    refine ⟨(mid_perm _ _ _ _).trans h1.symm, ?_⟩
    rw [h1.length_eq, h2.length_eq]
    simp
  · have hn' : ∀ p ∈ l, p.1 ≠ k := fun p hpl e => hn p (h.only p hpl e) e
    have h1 := put_anew (v := v) h.rise hn'
    rw [bput_miss hn, bhas_miss hn]
    refine ⟨?_, by rw [h1.length_eq]; simp⟩
    rw [List.append_assoc]
    exact (List.perm_middle (l₁ := L) (a := (k, v)) (l₂ := rest)).trans ((hp.symm.cons _).trans h1.symm)
theorem oneB_del {l L rest : List Kv} {k : ByteArray} (h : OneB l L k) (hp : l.Perm (L ++ rest)) : (bdel k L ++ rest).Perm (delL k l) ∧ l.length = (delL k l).length + (if bhas k L then 1 else 0) := by
  rcases b_cases k L with ⟨pre, x, post, rfl, hpre⟩ | hn
  · have h2 := hp.trans (mid_perm _ _ _ _)
    have h1 := del_there h.rise h2
    rw [bdel_hit hpre, bhas_hit]
    refine ⟨h1.symm, ?_⟩
    rw [h2.length_eq, h1.length_eq]
    simp
  · have hn' : ∀ p ∈ l, p.1 ≠ k := fun p hpl e => hn p (h.only p hpl e) e
    rw [bdel_miss hn, bhas_miss hn, delL_none hn']
    exact ⟨hp.symm, by simp⟩
theorem oneB_get {l L rest : List Kv} {k : ByteArray} (h : OneB l L k) (hp : l.Perm (L ++ rest)) : getL k L = getL k l ∧ bhas k L = (getL k l).isSome := by
  rcases b_cases k L with ⟨pre, x, post, rfl, hpre⟩ | hn
  · have hn := rising_nodup h.rise
    have hin : (k, x) ∈ l := hp.mem_iff.2 (by simp)
    rw [get_there hn hin, bhas_hit]
    refine ⟨?_, rfl⟩
    refine get_there ?_ (by simp)
    have := hn.perm hp
    unfold NodupK at this ⊢
    rw [List.map_append, List.nodup_append] at this
    exact this.1
  · have hn' : ∀ p ∈ l, p.1 ≠ k := fun p hpl e => hn p (h.only p hpl e) e
    rw [get_none hn', get_none hn, bhas_miss hn]
    exact ⟨rfl, rfl⟩
/-! In all of them. -/
def plN (sd n : Nat) (k : ByteArray) : Nat := ofN sd k.data.toList % n
structure FitT (sd N left : Nat) (B E : Nat → List Kv) (l : List Kv) : Prop where
  perm : (flatN left E ++ flatN N B).Perm l
  inE : ∀ i, i < left → ∀ p ∈ E i, plN sd (N / 2) p.1 = i
  inB : ∀ i, i < N → ∀ p ∈ B i, plN sd N p.1 = i ∧ left ≤ plN sd (N / 2) p.1
section
variable {sd N left : Nat} {B E : Nat → List Kv} {l : List Kv} {k : ByteArray}
theorem FitT.oneE (h : FitT sd N left B E l) (hr : Rising l) (hk : plN sd (N / 2) k < left) : OneB l (E (plN sd (N / 2) k)) k := by
  refine ⟨hr, fun p hp e => ?_⟩
  rcases List.mem_append.1 (h.perm.mem_iff.2 hp) with h1 | h1
  · obtain ⟨i, hi, h2⟩ := mem_flat.1 h1
    have := h.inE i hi p h2
    rw [e] at this
    rwa [this]
  · obtain ⟨i, hi, h2⟩ := mem_flat.1 h1
    have := (h.inB i hi p h2).2
    rw [e] at this
    omega
theorem FitT.oneB (h : FitT sd N left B E l) (hr : Rising l) (hk : left ≤ plN sd (N / 2) k) : OneB l (B (plN sd N k)) k := by
  refine ⟨hr, fun p hp e => ?_⟩
  rcases List.mem_append.1 (h.perm.mem_iff.2 hp) with h1 | h1
  · obtain ⟨i, hi, h2⟩ := mem_flat.1 h1
    have := h.inE i hi p h2
    rw [e] at this
    omega
  · obtain ⟨i, hi, h2⟩ := mem_flat.1 h1
    have := (h.inB i hi p h2).1
    rw [e] at this
    rwa [this]
theorem FitT.restE (h : FitT sd N left B E l) {i : Nat} (hi : i < left) : ∃ rest, l.Perm (E i ++ rest) ∧ ∀ L, (flatN left (updF E i L) ++ flatN N B).Perm (L ++ rest) := by
  obtain ⟨rest, hr⟩ := flat_pick E i left hi
  have key : ∀ L, (flatN left (updF E i L) ++ flatN N B).Perm (L ++ (rest ++ flatN N B)) := fun L => by
    rw [← List.append_assoc]
    exact (hr L).append_right _
  refine ⟨rest ++ flatN N B, ?_, key⟩
  have := key (E i)
  rw [updF_self] at this
  exact h.perm.symm.trans this
theorem FitT.restB (h : FitT sd N left B E l) {i : Nat} (hi : i < N) : ∃ rest, l.Perm (B i ++ rest) ∧ ∀ L, (flatN left E ++ flatN N (updF B i L)).Perm (L ++ rest) := by
  obtain ⟨rest, hr⟩ := flat_pick B i N hi
  have key : ∀ L, (flatN left E ++ flatN N (updF B i L)).Perm (L ++ (rest ++ flatN left E)) := fun L => by
    rw [← List.append_assoc]
    exact ((hr L).append_left _).trans List.perm_append_comm
  refine ⟨rest ++ flatN left E, ?_, key⟩
  have := key (B i)
  rw [updF_self] at this
  exact h.perm.symm.trans this
/-- One of the elder buckets turns. -/
theorem FitT.setE (h : FitT sd N left B E l) {i : Nat} {L l' : List Kv} (hin : ∀ p ∈ L, plN sd (N / 2) p.1 = i) (hp : (flatN left (updF E i L) ++ flatN N B).Perm l') : FitT sd N left B (updF E i L) l' := by
  refine ⟨hp, fun j hj p hpj => ?_, h.inB⟩
  by_cases e : j = i
  · rw [e, updF_same] at hpj
    rw [e]
    exact hin p hpj
  · rw [updF_other _ _ e] at hpj
    exact h.inE j hj p hpj
theorem FitT.setB (h : FitT sd N left B E l) {i : Nat} {L l' : List Kv} (hin : ∀ p ∈ L, plN sd N p.1 = i ∧ left ≤ plN sd (N / 2) p.1) (hp : (flatN left E ++ flatN N (updF B i L)).Perm l') : FitT sd N left (updF B i L) E l' := by
  refine ⟨hp, h.inE, fun j hj p hpj => ?_⟩
  by_cases e : j = i
  · rw [e, updF_same] at hpj
    rw [e]
    exact hin p hpj
  · rw [updF_other _ _ e] at hpj
    exact h.inB j hj p hpj
theorem FitT.grow (h : FitT sd N 0 B E l) : FitT sd (2 * N) N (fun _ => []) B l := by
  have e : 2 * N / 2 = N := by omega
  refine ⟨?_, fun i hi p hp => by rw [e]; exact (h.inB i hi p hp).1, fun _ _ p hp => by cases hp⟩
  have := h.perm
  rw [flat_none, List.append_nil]
  exact this
end
/-- While the last elder bucket is moved: what is still to come. -/
structure Moving (sd N last : Nat) (B E : Nat → List Kv) (todo l : List Kv) : Prop where
  perm : (flatN last E ++ flatN N B ++ todo).Perm l
  inE : ∀ i, i < last → ∀ p ∈ E i, plN sd (N / 2) p.1 = i
  inB : ∀ i, i < N → ∀ p ∈ B i, plN sd N p.1 = i ∧ last ≤ plN sd (N / 2) p.1
  todo : ∀ p ∈ todo, plN sd (N / 2) p.1 = last
theorem FitT.moving {sd N last : Nat} {B E : Nat → List Kv} {l : List Kv} (h : FitT sd N (last + 1) B E l) : Moving sd N last B E (E last) l := by
  refine ⟨?_, fun i hi => h.inE i (by omega), fun i hi p hp => ⟨(h.inB i hi p hp).1, by have := (h.inB i hi p hp).2; omega⟩, h.inE last (Nat.lt_succ_self _)⟩
  refine List.Perm.trans ?_ h.perm
  rw [flat_succ, List.append_assoc, List.append_assoc]
  exact List.perm_append_comm.append_left _
theorem Moving.step {sd N last : Nat} {B E : Nat → List Kv} {l todo : List Kv} {p : Kv} (h : Moving sd N last B E (p :: todo) l) (hN : 0 < N) : Moving sd N last (updF B (plN sd N p.1) (B (plN sd N p.1) ++ [p])) E todo l := by
  have hi : plN sd N p.1 < N := Nat.mod_lt _ hN
  obtain ⟨rest, hr⟩ := flat_pick B _ N hi
  have h1 := hr (B (plN sd N p.1))
  rw [updF_self] at h1
  refine ⟨?_, h.inE, fun j hj q hq => ?_, fun q hq => h.todo q (List.mem_cons_of_mem _ hq)⟩
  · refine List.Perm.trans ?_ h.perm
    rw [List.append_assoc, List.append_assoc]
    refine List.Perm.append_left _ ?_
    refine ((hr _).append_right _).trans (List.Perm.trans ?_ (h1.symm.append_right _))
    rw [List.append_assoc, List.append_assoc, List.append_assoc]
    refine List.Perm.append_left _ ?_
    show (p :: (rest ++ todo)).Perm _
    exact List.perm_middle.symm
  · by_cases e : j = plN sd N p.1
    · rw [e, updF_same] at hq
      rw [e]
      rcases List.mem_append.1 hq with hq | hq
      · exact h.inB _ hi q hq
      · rw [List.mem_singleton.1 hq]
        exact ⟨rfl, by rw [h.todo p List.mem_cons_self]; exact Nat.le_refl _⟩
    · rw [updF_other _ _ e] at hq
      exact h.inB j hj q hq
theorem Moving.done {sd N last : Nat} {B E : Nat → List Kv} {l : List Kv} (h : Moving sd N last B E [] l) : FitT sd N last B E l := ⟨by have := h.perm; rwa [List.append_nil] at this, h.inE, h.inB⟩
end Go.Proofs.YtckjjfkfapfdaaaGreat
