/- ShardUpdates returns true for every input, and writes nothing that was there. Conditions: the contracts of package shard. -/
import Derived.Test.YtckjjfkfapfdaaaGreatG36Joined
import Derived.Test.YtckjjfkfapfdaaaGreatHasIt
import Derived.Test.YtckjjfkfapfdaaaGreatSameIt
import Derived.Test.YtckjjfkfapfdaaaGreatShardUpdM
import Derived.Deep.RegionHeldLaw
import Derived.Deep.QuietTactic
import Derived.BigQuiet
namespace Go.Proofs.YtckjjfkfapfdaaaGreat
open Go.RowKit Go.Shelf
variable {Sh : World → Nat → (Nat → Prop) → Nat → Nat → Hs → Prop}

theorem drew_gr11 (w : World) : w.grownBy w.drew none := ⟨rfl, rfl, rfl, Nat.le_refl _, fun _ _ _ => rfl⟩
theorem drewN_gr11' (w : World) (n : Nat) : w.grownBy (w.drewN n) none := ⟨rfl, rfl, rfl, Nat.le_refl _, fun _ _ _ => rfl⟩
theorem str_self (x : ByteArray) : (x.toList == x.toList) = true := by simp
theorem ne_beq {a b : Int} (h : a ≠ b) : (a == b) = false := beq_eq_false_iff_ne.2 h
set_option maxRecDepth 100000 in
set_option maxHeartbeats 8000000 in
theorem shardUpdates_in (L : ShardLib Sh) (sd : Nat) (hd : sd < 18446744073709551616) {w : World} {a : Option Addr} {len cap : Nat} {os : List Op11} (h : OpsAt w a len cap os) (hS : FewL os) (i : Iv) (ia : Option Addr) (ic : Nat) (hi : i.ok) (hib : Bs w ia i.val.length ic (ints i.val)) :
    Calls Tryz.prog 6 #[.int .u64 sd, .slice a len cap, .agg (itC (itOf i ia ic))] w fun e w' => e = .returned (.bool true) ∧ Below w.heap.size w w' := by
  have hl := h.len_
  have hlen : len ≤ 80 := by rw [← hl]; exact hS.1
  have hik := hi.key
  have hiv := hi.val
  have hki : (i.key.size : Int) ≤ 300 := by omega
  have hvi : (i.val.length : Int) ≤ 3000 := by omega
  have HB := (Law.start w).box (.cells (itC (itOf i ia ic)) 34)
  go_enter Tryz.func6, Tryz.ntmps6
  go_wp2_with (first
    | (go_at_call 8; refine (awake_any L _).mono ?_; rintro e w1 ⟨rfl, hb⟩; replace HB := HB.step (below_gr' hb); clear hb)
    | (go_at_call 9; refine (few_any (h.on HB.below)).mono ?_; rintro e w2 ⟨⟨q, rfl, hq⟩, hg⟩; obtain rfl : q = true := hq.2 hS; replace HB := HB.step hg; clear hg hq)
    | (go_at_call 10; refine (shNew_is L HB sd 2000 3 hd (i64_lit 2000) (i64_lit 3)).mono ?_; clear HB; rintro e w3 ⟨b, own, rfl, H⟩; have k0 : w3.cell? ⟨w.heap.size, 0, none⟩ = some (.string i.key) := (it_cells H.q.2.1.1).1; have k1 : w3.cell? ⟨w.heap.size, 1, none⟩ = some (.slice ia i.val.length ic) := (it_cells H.q.2.1.1).2.1))
  clear k0 k1
  go_loopw [10] (fun i' wr => ∃ (k : Nat) (own : Nat → Prop) (st : Hs), k ≤ len ∧ i' = .int .i64 k ∧ Law w wr ((shQ L b own sd k st).and ((boxP w.heap.size (.cells (itC (itOf i ia ic)) 34)).and Part.emp))) (fun i' _ => len - (intOf i').toNat)
  case atStart => exact ⟨0, own, _, Nat.zero_le _, rfl, H⟩
  case round =>
    clear H
    obtain ⟨k, own, st, hk', rfl, H⟩ := hrel
    by_cases hlt : k < len
    · obtain ⟨ca, off, rfl, hcell, hok⟩ := h.at k (by omega)
      have hvi := hS.ok (List.getElem_mem (by omega)) hok
      have hki : (k : Int) < (len : Int) := by omega
      have H1 := H.drew
      obtain ⟨o, ho⟩ : ∃ o, os[k] = o := ⟨_, rfl⟩
      rw [ho] at hcell hok hvi
      have HC := hide hcell
      have c1 := (hcell.on (Nat.le_refl _) H1.below).has
      have hrd := H1.read hok.bs
      have hen' := hok.en
      clear hcell hok H ho
      go_upto_region 9 with fail
      go_region_held (Has14 ca off k o) (first | exact c2 | exact c1) ((go_at_call 22; refine (shStore_is L H1 (by omega) o.iv o.a o.c o.en hvi hrd hen' _ _ rfl rfl).mono ?_; rintro e w4 ⟨rfl, own4, H4⟩; have c2 := (HC.out.on (Nat.le_refl _) H4.below).has))
      go_wp2
      go_roundw
      case rel => exact ⟨k + 1, own4, _, by omega, by go_num, H4⟩
      case measure => simp [intOf]; omega
    · obtain ⟨K, hK⟩ : ∃ K, k = K := ⟨_, rfl⟩
      have hK9 : K ≤ 80 := by omega
      have hlt2 : ¬ ((k : Int) < (len : Int)) := by omega
      rw [hK] at H hlt2 ⊢
      clear hS h hk' hl hlt hK
      have G0 := H.shGood
      obtain ⟨u1, u2, u3⟩ := upd_at G0 i
      obtain ⟨s2, hs2⟩ : ∃ s2, updH st i = s2 := ⟨_, rfl⟩
      obtain ⟨E0, hE0⟩ : ∃ E0, updErr st i = E0 := ⟨_, rfl⟩
      rw [hs2] at u1 u2 u3
      rw [hE0] at u3
      obtain ⟨N, hN⟩ : ∃ N, st.ents.length = N := ⟨_, rfl⟩
      rw [hN] at u2
      have hN8 : N ≤ 80 := by have := G0.few; omega
      obtain ⟨U, hU⟩ : ∃ U, usedS st.slab = U := ⟨_, rfl⟩
      rw [hU] at u1
      have HQ2 := hide hs2
      have HE0 := hide hE0
      have HT1 : Hid ((st.ents.map Prod.fst).take 1000 = st.ents.map Prod.fst) := List.take_of_length_le (by rw [List.length_map]; omega)
      have HT2 : Hid ((s2.ents.map Prod.fst).take 1000 = s2.ents.map Prod.fst) := List.take_of_length_le (by rw [List.length_map]; omega)
      have HN := hide hN
      have HM := hide u2
      have HU := hide hU
      have HU2 := hide u1
      have HA := hide u3
      clear hs2 G0 hN hU u1 u2 u3 hE0
      go_wp2_with (first
        | (go_at_call 15; have t := HU; clear t; refine (shUsed_is L H (by omega) _ HU.out).mono ?_; clear H HU; rintro e w7 ⟨rfl, H⟩)
        | (go_at_call 14; have t := HT1; clear t; refine (shAll_is L H (by omega) 1000 (by decide) (by decide)).mono ?_; clear H; rintro e w6 ⟨v, xs, rfl, hxs, H⟩; rw [HT1.out] at hxs; clear HT1; obtain ⟨pa, ca, rfl⟩ := own_shape (show _ from H.q.2.1.1.1))
        | (refine wpList_load_row rfl 34 _ rfl w.heap.size rfl _ (itC (itOf i ia ic)) _ _ H.q.2.1.2.1.1 Tryz.underlying34 rfl (item_size _) ?_)
        | (go_at_call 26; refine (shUpdate_is L H (by omega) i ia ic hi (H.read hib)).mono ?_; clear H; rintro e w8 ⟨rfl, own8, H⟩; rw [HQ2.out] at H; rw [HE0.out]; clear HE0)
        | (go_at_call 14; refine (shAll_is L H (by omega) 1000 (by decide) (by decide)).mono ?_; clear H; rintro e w10 ⟨v2, ys, rfl, hys, H⟩; rw [HT2.out] at hys; obtain ⟨pb, cb, rfl⟩ := own_shape (show _ from H.q.2.1.1.1))
        | (go_at_call 15; refine (shUsed_is L H (by omega) _ HU2.out).mono ?_; clear H; rintro e w11 ⟨rfl, H⟩; have hxl : xs.length = N := (by have := congrArg List.length hxs; rw [List.length_map, List.length_map] at this; rw [this]; exact HN.out); have hyl : ys.length = N := (by have := congrArg List.length hys; rw [List.length_map, List.length_map] at this; rw [this]; exact HM.out); rw [hxl, hyl] at H ⊢))
      have HX := hide hxs
      have HY := hide hys
      clear hxs hys
      go_loopw [15, 16, 17] (fun i' x16 x17 wr => ∃ (j : Nat), j ≤ N ∧ i' = .int .i64 j ∧ Law w wr ((shQ L b own8 sd K s2).and ((itemsP (.slice pb N cb) ys).and ((itemsP (.slice pa N ca) xs).and ((boxP w.heap.size (.cells (itC (itOf i ia ic)) 34)).and Part.emp))))) (fun i' _ _ _ => N - (intOf i').toNat)
      case atStart => exact ⟨0, Nat.zero_le _, rfl, H⟩
      case round =>
        clear H
        obtain ⟨j, hj, rfl, H⟩ := hrel
        by_cases hjl : j < N
        · have hji : (j : Int) < (N : Int) := by omega
          obtain ⟨e, he⟩ : ∃ e, st.ents[j]? = some e := ⟨_, List.getElem?_eq_getElem (by rw [HN.out]; exact hjl)⟩
          obtain ⟨e', he', a1, a2, a3, a4, a5⟩ := HA.out j e he
          obtain ⟨x, hx, hxe⟩ := told_at HX.out he
          obtain ⟨y, hy, hye⟩ := told_at HY.out he'
          rw [← hxe] at a1 a2 a3 a4 a5
          rw [← hye] at a1 a2 a3 a4
          obtain ⟨g2, cap2, e2, r2, m2, b2⟩ := items_at H.q.2.1.1 hyl hy
          cases e2
          obtain ⟨g1, cap1, e1, r1, m1, b1⟩ := items_at H.q.2.1.2.1.1 hxl hx
          cases e1
          have hbx : wr.heap[w.heap.size]? = some (.cells (itC (itOf i ia ic)) 34 (0, 0)) := H.q.2.1.2.1.2.1.1
          have bi := hib.on H.below
          clear he he' hx hy HX HY HA
          by_cases hkk : x.iv.key = i.key
          · by_cases hE : E0 = 0
            · have hyi : y.iv = i := a2 hE hkk
              have hlv : x.iv.val.length = i.val.length := (a5 hkk).1 hE
              subst hE
              have g0 := gr_trans (World.grownBy_alloc wr (.cells (itC (itOf i ia ic)) 34) none) (drew_gr11 (wr.alloc (.cells (itC (itOf i ia ic)) 34)))
              have H1 := (H.alloc (.cells (itC (itOf i ia ic)) 34)).drew
              have hk : Hid (HasM g2 (j * 10) y.iv y.a y.c (wr.alloc (.cells (itC (itOf i ia ic)) 34)).drew ∧ HasB wr.heap.size i ia ic (wr.alloc (.cells (itC (itOf i ia ic)) 34)).drew) := ⟨HasM.on m2 g0, hasB_of (World.alloc_heap_new wr _)⟩
              have by1 := b2.on (below_gr g0)
              have bw1 := bi.on (below_gr g0)
              have kx : (wr.alloc (.cells (itC x.it) 34)).cell? ⟨wr.heap.size, 0, none⟩ = some (.string x.iv.key) := (it_cells (World.alloc_heap_new wr _)).1
              have ki : (wr.alloc (.cells (itC x.it) 34)).cell? ⟨w.heap.size, 0, none⟩ = some (.string i.key) := cell_grown (it_cells hbx).1 (World.grownBy_alloc wr _ none)
              rw [hkk] at kx
              have hbx2 : (wr.alloc (.cells (itC x.it) 34)).heap[w.heap.size]? = some (.cells (itC (itOf i ia ic)) 34 (0, 0)) := (Below.heap_alloc _ _ _ (Array.getElem?_eq_some_iff.1 hbx).1).trans hbx
              have n1 : Hid (wr.cell? ⟨g1, j * 10 + 1, none⟩ = some (.slice x.a x.iv.val.length x.c)) := m1.2.1
              have n2 : Hid (wr.cell? ⟨w.heap.size, 0, none⟩ = some (.string i.key)) := (it_cells hbx).1
              have n3 : Hid (wr.cell? ⟨w.heap.size, 1, none⟩ = some (.slice ia i.val.length ic)) := (it_cells hbx).2.1
              have HG0 := hide g0
              have HYI := hide hyi
              have HLV := hide hlv
              have HKK := hide hkk
              clear hyi a1 a2 a3 a4 a5 m1 m2 bi b1 b2 r2 hxe hye g0 H hlv hkk
              go_upto_region 22 with (first
                | (refine wpList_load_mid rfl 34 _ rfl g1 (j * 10) rfl (itC x.it).toList _ r1 Tryz.underlying34 rfl (by rw [item_size x.it, Array.length_toList]) ?_)
                | (refine wpList_store_row rfl 34 _ _ rfl wr.heap.size (itC x.it) rfl rfl _ (itC zeroIt) (World.alloc_heap_new wr _) (item_size _) rfl (item_one _) ?_; rw [setRow_alloc])
                | (refine wpList_load_row rfl 34 _ rfl w.heap.size rfl _ (itC (itOf i ia ic)) _ _ hbx2 Tryz.underlying34 rfl (item_size _) ?_)
                | (refine wpList_store_row rfl 34 _ _ rfl wr.heap.size (itC (itOf i ia ic)) rfl rfl _ (itC x.it) (World.alloc_heap_new wr _) (item_size _) rfl (item_one _) ?_; rw [setRow_alloc]))
              clear kx ki hbx2 hbx r1
              go_region_held (fun w' => HasM g2 (j * 10) y.iv y.a y.c w' ∧ HasB wr.heap.size i ia ic w') (first | exact c2 | exact hk.out) ((go_at_call 23; refine (sameIt_any y.iv i y.a ia y.c ic _ by1 bw1).mono ?_; rintro e w7 ⟨q, rfl, hq, hg⟩; obtain rfl : q = true := hq HYI.out; have c2 : HasM g2 (j * 10) y.iv y.a y.c w7 ∧ HasB wr.heap.size i ia ic w7 := ⟨HasM.on hk.out.1 hg, HasB.on hk.out.2 hg⟩; have H2 := H1.step hg; have HG1 := hide (gr_trans HG0.out hg)))
              have k21 := cell_grown n1.out HG1.out
              have k22 := cell_grown n2.out HG1.out
              have k23 := cell_grown n3.out HG1.out
              rw [HLV.out] at k21
              have hyk : (y.iv.key.toList == i.key.toList) = true := by rw [HYI.out]; exact str_self _
              clear H1 by1 bw1 c2 hg hq
              go_wp2
              go_quiet (fail)
              go_wp2
              go_roundw
              case rel => exact ⟨j + 1, by omega, by go_num, H2.step (drewN_gr11' _ _)⟩
              case measure => simp [intOf]; omega
            · have hyi : y.iv = x.iv := a3 hE
              have hlv : x.iv.val.length ≠ i.val.length := fun e => hE ((a5 hkk).2 e)
              have hlb : ((x.iv.val.length : Int) == (i.val.length : Int)) = false := ne_beq (by omega)
              have hEb := ne_beq hE
              have g0 := gr_trans (World.grownBy_alloc wr (.cells (itC x.it) 34) none) (drew_gr11 (wr.alloc (.cells (itC x.it) 34)))
              have H1 := (H.alloc (.cells (itC x.it) 34)).drew
              have hk : Hid (HasM g2 (j * 10) y.iv y.a y.c (wr.alloc (.cells (itC x.it) 34)).drew ∧ HasB wr.heap.size x.iv x.a x.c (wr.alloc (.cells (itC x.it) 34)).drew) := ⟨HasM.on m2 g0, hasB_of (World.alloc_heap_new wr _)⟩
              have by1 := b2.on (below_gr g0)
              have bw1 := b1.on (below_gr g0)
              have kx : (wr.alloc (.cells (itC x.it) 34)).cell? ⟨wr.heap.size, 0, none⟩ = some (.string x.iv.key) := (it_cells (World.alloc_heap_new wr _)).1
              have ki : (wr.alloc (.cells (itC x.it) 34)).cell? ⟨w.heap.size, 0, none⟩ = some (.string i.key) := cell_grown (it_cells hbx).1 (World.grownBy_alloc wr _ none)
              rw [hkk] at kx
              have hbx2 : (wr.alloc (.cells (itC x.it) 34)).heap[w.heap.size]? = some (.cells (itC (itOf i ia ic)) 34 (0, 0)) := (Below.heap_alloc _ _ _ (Array.getElem?_eq_some_iff.1 hbx).1).trans hbx
              have n1 : Hid (wr.cell? ⟨g1, j * 10 + 1, none⟩ = some (.slice x.a x.iv.val.length x.c)) := m1.2.1
              have n2 : Hid (wr.cell? ⟨w.heap.size, 0, none⟩ = some (.string i.key)) := (it_cells hbx).1
              have n3 : Hid (wr.cell? ⟨w.heap.size, 1, none⟩ = some (.slice ia i.val.length ic)) := (it_cells hbx).2.1
              have HG0 := hide g0
              have HYI := hide hyi
              have HKK := hide hkk
              clear hyi a1 a2 a3 a4 a5 m1 m2 bi b1 b2 r2 hxe hye g0 H hlv hkk hE
              go_upto_region 22 with (first
                | (refine wpList_load_mid rfl 34 _ rfl g1 (j * 10) rfl (itC x.it).toList _ r1 Tryz.underlying34 rfl (by rw [item_size x.it, Array.length_toList]) ?_)
                | (refine wpList_store_row rfl 34 _ _ rfl wr.heap.size (itC x.it) rfl rfl _ (itC zeroIt) (World.alloc_heap_new wr _) (item_size _) rfl (item_one _) ?_; rw [setRow_alloc]))
              clear kx ki hbx2 hbx r1
              go_region_held (fun w' => HasM g2 (j * 10) y.iv y.a y.c w' ∧ HasB wr.heap.size x.iv x.a x.c w') (first | exact c2 | exact hk.out) ((go_at_call 23; refine (sameIt_any y.iv x.iv y.a x.a y.c x.c _ by1 bw1).mono ?_; rintro e w7 ⟨q, rfl, hq, hg⟩; obtain rfl : q = true := hq HYI.out; have c2 : HasM g2 (j * 10) y.iv y.a y.c w7 ∧ HasB wr.heap.size x.iv x.a x.c w7 := ⟨HasM.on hk.out.1 hg, HasB.on hk.out.2 hg⟩; have H2 := H1.step hg; have HG1 := hide (gr_trans HG0.out hg)))
              have k21 := cell_grown n1.out HG1.out
              have k22 := cell_grown n2.out HG1.out
              have k23 := cell_grown n3.out HG1.out
              have hyk : (y.iv.key.toList == i.key.toList) = true := by rw [HYI.out, HKK.out]; exact str_self _
              clear H1 by1 bw1 c2 hg hq
              go_wp2
              go_quiet (fail)
              go_wp2
              go_roundw
              case rel => exact ⟨j + 1, by omega, by go_num, H2.step (drewN_gr11' _ _)⟩
              case measure => simp [intOf]; omega
          · have hyi : y.iv = x.iv := a4 hkk
            have hne := str_ne hkk
            by_cases hE : E0 = 0
            · subst hE
              have g0 := gr_trans (World.grownBy_alloc wr (.cells (itC x.it) 34) none) (drew_gr11 (wr.alloc (.cells (itC x.it) 34)))
              have H1 := (H.alloc (.cells (itC x.it) 34)).drew
              have hk : Hid (HasM g2 (j * 10) y.iv y.a y.c (wr.alloc (.cells (itC x.it) 34)).drew ∧ HasB wr.heap.size x.iv x.a x.c (wr.alloc (.cells (itC x.it) 34)).drew) := ⟨HasM.on m2 g0, hasB_of (World.alloc_heap_new wr _)⟩
              have by1 := b2.on (below_gr g0)
              have bw1 := b1.on (below_gr g0)
              have kx : (wr.alloc (.cells (itC x.it) 34)).cell? ⟨wr.heap.size, 0, none⟩ = some (.string x.iv.key) := (it_cells (World.alloc_heap_new wr _)).1
              have ki : (wr.alloc (.cells (itC x.it) 34)).cell? ⟨w.heap.size, 0, none⟩ = some (.string i.key) := cell_grown (it_cells hbx).1 (World.grownBy_alloc wr _ none)
              have hbx2 : (wr.alloc (.cells (itC x.it) 34)).heap[w.heap.size]? = some (.cells (itC (itOf i ia ic)) 34 (0, 0)) := (Below.heap_alloc _ _ _ (Array.getElem?_eq_some_iff.1 hbx).1).trans hbx
              have n1 : Hid (wr.cell? ⟨g1, j * 10 + 1, none⟩ = some (.slice x.a x.iv.val.length x.c)) := m1.2.1
              have n2 : Hid (wr.cell? ⟨w.heap.size, 0, none⟩ = some (.string i.key)) := (it_cells hbx).1
              have n3 : Hid (wr.cell? ⟨w.heap.size, 1, none⟩ = some (.slice ia i.val.length ic)) := (it_cells hbx).2.1
              have HG0 := hide g0
              have HYI := hide hyi
              clear hyi a1 a2 a3 a4 a5 m1 m2 bi b1 b2 r2 hxe hye g0 H hkk
              go_upto_region 22 with (first
                | (refine wpList_load_mid rfl 34 _ rfl g1 (j * 10) rfl (itC x.it).toList _ r1 Tryz.underlying34 rfl (by rw [item_size x.it, Array.length_toList]) ?_)
                | (refine wpList_store_row rfl 34 _ _ rfl wr.heap.size (itC x.it) rfl rfl _ (itC zeroIt) (World.alloc_heap_new wr _) (item_size _) rfl (item_one _) ?_; rw [setRow_alloc]))
              clear kx ki hbx2 hbx r1
              go_region_held (fun w' => HasM g2 (j * 10) y.iv y.a y.c w' ∧ HasB wr.heap.size x.iv x.a x.c w') (first | exact c2 | exact hk.out) ((go_at_call 23; refine (sameIt_any y.iv x.iv y.a x.a y.c x.c _ by1 bw1).mono ?_; rintro e w7 ⟨q, rfl, hq, hg⟩; obtain rfl : q = true := hq HYI.out; have c2 : HasM g2 (j * 10) y.iv y.a y.c w7 ∧ HasB wr.heap.size x.iv x.a x.c w7 := ⟨HasM.on hk.out.1 hg, HasB.on hk.out.2 hg⟩; have H2 := H1.step hg; have HG1 := hide (gr_trans HG0.out hg)))
              have k21 := cell_grown n1.out HG1.out
              have k22 := cell_grown n2.out HG1.out
              have k23 := cell_grown n3.out HG1.out
              have hyk : (y.iv.key.toList == i.key.toList) = false := by rw [HYI.out]; exact hne
              clear H1 by1 bw1 c2 hg hq
              go_wp2
              go_quiet (fail)
              go_wp2
              go_roundw
              case rel => exact ⟨j + 1, by omega, by go_num, H2.step (drewN_gr11' _ _)⟩
              case measure => simp [intOf]; omega
            · have hEb := ne_beq hE
              have g0 := gr_trans (World.grownBy_alloc wr (.cells (itC x.it) 34) none) (drew_gr11 (wr.alloc (.cells (itC x.it) 34)))
              have H1 := (H.alloc (.cells (itC x.it) 34)).drew
              have hk : Hid (HasM g2 (j * 10) y.iv y.a y.c (wr.alloc (.cells (itC x.it) 34)).drew ∧ HasB wr.heap.size x.iv x.a x.c (wr.alloc (.cells (itC x.it) 34)).drew) := ⟨HasM.on m2 g0, hasB_of (World.alloc_heap_new wr _)⟩
              have by1 := b2.on (below_gr g0)
              have bw1 := b1.on (below_gr g0)
              have kx : (wr.alloc (.cells (itC x.it) 34)).cell? ⟨wr.heap.size, 0, none⟩ = some (.string x.iv.key) := (it_cells (World.alloc_heap_new wr _)).1
              have ki : (wr.alloc (.cells (itC x.it) 34)).cell? ⟨w.heap.size, 0, none⟩ = some (.string i.key) := cell_grown (it_cells hbx).1 (World.grownBy_alloc wr _ none)
              have hbx2 : (wr.alloc (.cells (itC x.it) 34)).heap[w.heap.size]? = some (.cells (itC (itOf i ia ic)) 34 (0, 0)) := (Below.heap_alloc _ _ _ (Array.getElem?_eq_some_iff.1 hbx).1).trans hbx
              have n1 : Hid (wr.cell? ⟨g1, j * 10 + 1, none⟩ = some (.slice x.a x.iv.val.length x.c)) := m1.2.1
              have n2 : Hid (wr.cell? ⟨w.heap.size, 0, none⟩ = some (.string i.key)) := (it_cells hbx).1
              have n3 : Hid (wr.cell? ⟨w.heap.size, 1, none⟩ = some (.slice ia i.val.length ic)) := (it_cells hbx).2.1
              have HG0 := hide g0
              have HYI := hide hyi
              clear hyi a1 a2 a3 a4 a5 m1 m2 bi b1 b2 r2 hxe hye g0 H hkk hE
              go_upto_region 22 with (first
                | (refine wpList_load_mid rfl 34 _ rfl g1 (j * 10) rfl (itC x.it).toList _ r1 Tryz.underlying34 rfl (by rw [item_size x.it, Array.length_toList]) ?_)
                | (refine wpList_store_row rfl 34 _ _ rfl wr.heap.size (itC x.it) rfl rfl _ (itC zeroIt) (World.alloc_heap_new wr _) (item_size _) rfl (item_one _) ?_; rw [setRow_alloc]))
              clear kx ki hbx2 hbx r1
              go_region_held (fun w' => HasM g2 (j * 10) y.iv y.a y.c w' ∧ HasB wr.heap.size x.iv x.a x.c w') (first | exact c2 | exact hk.out) ((go_at_call 23; refine (sameIt_any y.iv x.iv y.a x.a y.c x.c _ by1 bw1).mono ?_; rintro e w7 ⟨q, rfl, hq, hg⟩; obtain rfl : q = true := hq HYI.out; have c2 : HasM g2 (j * 10) y.iv y.a y.c w7 ∧ HasB wr.heap.size x.iv x.a x.c w7 := ⟨HasM.on hk.out.1 hg, HasB.on hk.out.2 hg⟩; have H2 := H1.step hg; have HG1 := hide (gr_trans HG0.out hg)))
              have k21 := cell_grown n1.out HG1.out
              have k22 := cell_grown n2.out HG1.out
              have k23 := cell_grown n3.out HG1.out
              have hyk : (y.iv.key.toList == i.key.toList) = false := by rw [HYI.out]; exact hne
              clear H1 by1 bw1 c2 hg hq
              go_wp2
              go_quiet (fail)
              go_wp2
              go_roundw
              case rel => exact ⟨j + 1, by omega, by go_num, H2.step (drewN_gr11' _ _)⟩
              case measure => simp [intOf]; omega
        · have hji : ¬ ((j : Int) < (N : Int)) := by omega
          by_cases h6 : E0 = 6
          · subst h6
            go_wp2
            go_ret
            exact ⟨rfl, H.below⟩
          · have h6b := ne_beq h6
            go_wp2
            go_ret
            exact ⟨rfl, H.below⟩
set_option maxRecDepth 100000 in
set_option maxHeartbeats 4000000 in
theorem shardUpdates_out (L : ShardLib Sh) (sd : Nat) (hd : sd < 18446744073709551616) {w : World} {a : Option Addr} {len cap : Nat} {os : List Op11} (h : OpsAt w a len cap os) (i : Iv) (ia : Option Addr) (ic : Nat) (hi : i.raw) (hS : ¬ (FewL os ∧ i.key.size ≤ 300 ∧ i.val.length ≤ 3000)) :
    Calls Tryz.prog 6 #[.int .u64 sd, .slice a len cap, .agg (itC (itOf i ia ic))] w fun e w' => e = .returned (.bool true) ∧ Below w.heap.size w w' := by
  have HB := (Law.start w).box (.cells (itC (itOf i ia ic)) 34)
  have hkm := hi.key
  have hvm := hi.val
  unfold maxLen at hkm hvm
  by_cases hs : FewL os
  · by_cases hk : 300 < i.key.size
    · have hki : (300 : Int) < (i.key.size : Int) := by omega
      clear hS hk
      go_enter Tryz.func6, Tryz.ntmps6
      go_wp2_with (first
        | (go_at_call 8; refine (awake_any L _).mono ?_; rintro e w1 ⟨rfl, hb⟩; replace HB := HB.step (below_gr' hb); clear hb)
        | (go_at_call 9; refine (few_any (h.on HB.below)).mono ?_; rintro e w2 ⟨⟨q, rfl, hq⟩, hg⟩; obtain rfl : q = true := hq.2 hs; replace HB := HB.step hg; clear hg hq)
        | (go_at_call 10; refine (shNew_is L HB sd 2000 3 hd (i64_lit 2000) (i64_lit 3)).mono ?_; clear HB; rintro e w3 ⟨b, own, rfl, H⟩; have k0 : w3.cell? ⟨w.heap.size, 0, none⟩ = some (.string i.key) := (it_cells H.q.2.1.1).1))
      go_ret
      exact ⟨rfl, H.below⟩
    · have hki : (i.key.size : Int) ≤ 300 := by omega
      have hvi : (3000 : Int) < (i.val.length : Int) := by
        have : ¬ i.val.length ≤ 3000 := fun e => hS ⟨hs, by omega, e⟩
        omega
      clear hS hk
      go_enter Tryz.func6, Tryz.ntmps6
      go_wp2_with (first
        | (go_at_call 8; refine (awake_any L _).mono ?_; rintro e w1 ⟨rfl, hb⟩; replace HB := HB.step (below_gr' hb); clear hb)
        | (go_at_call 9; refine (few_any (h.on HB.below)).mono ?_; rintro e w2 ⟨⟨q, rfl, hq⟩, hg⟩; obtain rfl : q = true := hq.2 hs; replace HB := HB.step hg; clear hg hq)
        | (go_at_call 10; refine (shNew_is L HB sd 2000 3 hd (i64_lit 2000) (i64_lit 3)).mono ?_; clear HB; rintro e w3 ⟨b, own, rfl, H⟩; have k0 : w3.cell? ⟨w.heap.size, 0, none⟩ = some (.string i.key) := (it_cells H.q.2.1.1).1; have k1 : w3.cell? ⟨w.heap.size, 1, none⟩ = some (.slice ia i.val.length ic) := (it_cells H.q.2.1.1).2.1))
      go_ret
      exact ⟨rfl, H.below⟩
  · clear hS
    go_enter Tryz.func6, Tryz.ntmps6
    go_wp2_with (first
      | (go_at_call 8; refine (awake_any L _).mono ?_; rintro e w1 ⟨rfl, hb⟩; replace HB := HB.step (below_gr' hb); clear hb)
      | (go_at_call 9; refine (few_any (h.on HB.below)).mono ?_; rintro e w2 ⟨⟨q, rfl, hq⟩, hg⟩; obtain rfl : q = false := Bool.eq_false_iff.2 fun e => hs (hq.1 e); replace HB := HB.step hg; clear hg hq)
      | (go_at_call 10; refine (shNew_is L HB sd 2000 3 hd (i64_lit 2000) (i64_lit 3)).mono ?_; clear HB; rintro e w3 ⟨b, own, rfl, H⟩))
    go_ret
    exact ⟨rfl, H.below⟩
theorem shardUpdates_walk (L : ShardLib Sh) (W : World) (a0 : Int) (w0 : (Lit.int .u64 a0).wf = true) (a1 : Option Addr) (len1 cap1 : Nat) (z1 : List Op11) (w1 : OpsAt W a1 len1 cap1 z1) (z2 : Iv) (ia2 : Option Addr) (ic2 : Nat) (r2 : z2.raw) (b2 : Bs W ia2 z2.val.length ic2 (ints z2.val)) :
    Calls Tryz.prog 6 #[.int .u64 a0, .slice a1 len1 cap1, .agg (itC (itOf z2 ia2 ic2))] W fun e W' => e = .returned (.bool true) ∧ Below W.heap.size W W' := by
  obtain ⟨h0, h1⟩ := u64_wf w0
  obtain ⟨sd, rfl⟩ := Int.eq_ofNat_of_zero_le h0
  by_cases h : FewL z1 ∧ z2.key.size ≤ 300 ∧ z2.val.length ≤ 3000
  · exact shardUpdates_in L sd (by omega) w1 h.1 z2 ia2 ic2 ⟨h.2.1, h.2.2, r2.exp, r2.sec, r2.seq⟩ b2
  · exact shardUpdates_out L sd (by omega) w1 z2 ia2 ic2 r2 h
end Go.Proofs.YtckjjfkfapfdaaaGreat
