/- ShardLooks returns true for every input, and writes nothing that was there. Conditions: the contracts of package shard. -/
import Derived.Test.YtckjjfkfapfdaabGreatG36Joined
import Derived.Test.YtckjjfkfapfdaabGreatG37Joined
import Derived.Test.YtckjjfkfapfdaabGreatSame8
import Derived.Deep.RegionHeldLaw
namespace Go.Proofs.YtckjjfkfapfdaabGreat
open Go.RowKit Go.Shelf
variable {Sh : World → Nat → (Nat → Prop) → Nat → Nat → Hs → Prop}

theorem shLook_q (L : ShardLib Sh) {w0 w : World} {b sd n : Nat} {own : Nat → Prop} {st : Hs} {R : Part} (H : Law w0 w ((shQ L b own sd n st).and R)) (hn : n ≤ 900) (s : ByteArray) (hs : s.size ≤ 300) (en : En) (hen : en.ok) (q : Bool) (t : Hs) (hq : (livingH st s en).isSome = q) (ht : lookH st s en = t) :
    Calls Tryz.prog 11 #[.pointer (some ⟨b, 0, none⟩), .string s, .agg (enC en)] w fun e w' => ∃ i : It, e = .returned (.tuple #[.agg (itC i), .bool q]) ∧ ∃ own', Law w0 w' ((shQ L b own' sd n t).and R) := by
  refine (shLook_is L H hn s hs en hen).mono ?_
  rintro e w' (⟨h1, h2, own', h3⟩ | ⟨y, a, c, h1, h2, own', h3⟩)
  · rw [h1] at hq
    subst hq ht
    exact ⟨_, h2, own', h3.drop2⟩
  · rw [h1] at hq
    subst hq ht
    exact ⟨_, h2, own', h3.drop2⟩
theorem any_told {xs : List Told} {E : List Ent} (h : xs.map Told.iv = E.map Prod.fst) (key : ByteArray) : xs.any (fun x => decide (x.iv.key = key)) = (findE key E).isSome := by
  have e1 : xs.any (fun x => decide (x.iv.key = key)) = (xs.map Told.iv).any (fun i => decide (i.key = key)) := by rw [List.any_map]; rfl
  rw [e1, h, List.any_map, Bool.eq_iff_iff, List.any_eq_true]
  unfold findE
  rw [List.find?_isSome]
  rfl
theorem holds_new (w : World) (x : ByteArray) : HoldsS (w.alloc (.cells #[.string x] 9)) (.slice (some ⟨w.heap.size, 0, none⟩) 1 1) [x] := by
  refine ⟨_, 1, rfl, fun i hi => ?_, fun e => by cases e⟩
  obtain rfl : i = 0 := by simp at hi; omega
  exact ⟨w.heap.size, 0, rfl, boxS_cell (World.alloc_heap_new w _)⟩
theorem same_key {w0 w : World} {A R : Part} {g c n : Nat} {key : ByteArray} (H : Law w0 w (A.and ((textsP (.slice (some ⟨g, 0, none⟩) 1 c) [key]).and R))) (hn : w.heap.size = n) :
    Calls Tryz.prog 12 #[.slice (some ⟨g, 0, none⟩) 1 c, .slice (some ⟨n, 0, none⟩) 1 1] (w.alloc (.cells #[.string key] 9)) fun e w' => e = .returned (.bool true) ∧ Law w0 w' (A.and ((textsP (.slice (some ⟨g, 0, none⟩) 1 c) [key]).and R)) := by
  subst hn
  have HS2 := H.alloc (.cells #[.string key] 9)
  have h1 : (w.alloc (.cells #[.string key] 9)).ownsRow 0 9 1 (.slice (some ⟨g, 0, none⟩) 1 c) [key].length (strV [key]) := HS2.q.2.1.1
  refine (same_eq _ _ _ [key] (by simp) (holds_own h1) (holds_new _ key)).mono ?_
  rintro e w' ⟨he, hg⟩
  exact ⟨he, HS2.step hg⟩
/-- What looking at a key does, twice, where nothing was dropped. -/
theorem looks3 {n : Nat} {st : Hs} (g : GoodH n st) (hd : st.drops = []) (key : ByteArray) (en : En) :
    ((livingH st key en).isSome = true ∧ lookH st key en = st ∧ quietH st = st ∧ (findE key st.ents).isSome = true) ∨
    ((livingH st key en).isSome = false ∧ (lookH st key en).drops = [key] ∧ (livingH (quietH (lookH st key en)) key en).isSome = false ∧ lookH (quietH (lookH st key en)) key en = quietH (lookH st key en) ∧ (quietH (lookH st key en)).ents.length + 1 = st.ents.length ∧ (findE key st.ents).isSome = true) ∨
    ((livingH st key en).isSome = false ∧ lookH st key en = st ∧ quietH st = st ∧ (findE key st.ents).isSome = false) := by
  have hq : quietH st = st := by
    obtain ⟨e, s, o, j, d⟩ := st
    subst hd
    rfl
  cases hf : findE key st.ents with
  | none => exact .inr (.inr ⟨by simp [livingH, hf], by simp [lookH, hf], hq, rfl⟩)
  | some e =>
    by_cases hl : liveI e.1 en = true
    · exact .inl ⟨by simp [livingH, hf, hl], by simp [lookH, hf, hl], hq, rfl⟩
    · have e1 : lookH st key en = dropH st key := by simp [lookH, hf, hl]
      have e2 := drop_found hf
      have e3 : findE key (quietH (dropH st key)).ents = none := by
        rw [e2]
        exact find_del_same
      have e4 := (goodH_drop g hf).2.1
      refine .inr (.inl ⟨by simp [livingH, hf, hl], ?_, ?_, ?_, ?_, rfl⟩)
      · rw [e1, e2]
        show st.drops ++ [key] = [key]
        rw [hd]
        rfl
      · rw [e1]
        simp [livingH, e3]
      · rw [e1]
        simp [lookH, e3]
      · rw [e1]
        exact e4
set_option maxRecDepth 100000 in
set_option maxHeartbeats 8000000 in
theorem shardLooks_in (L : ShardLib Sh) (sd : Nat) (hd : sd < 18446744073709551616) {w : World} {a : Option Addr} {len cap : Nat} {os : List Op11} (h : OpsAt w a len cap os) (hS : FewL os) (key : ByteArray) (hk : key.size ≤ 300) (en : En) (hen : en.ok) :
    Calls Tryz.prog 3 #[.int .u64 sd, .slice a len cap, .string key, .agg (enC en)] w fun e w' => e = .returned (.bool true) ∧ Below w.heap.size w w' := by
  have hl := h.len_
  have hlen : len ≤ 80 := by rw [← hl]; exact hS.1
  have hki : (key.size : Int) ≤ 300 := by omega
  have HB := (Law.start w).box (.cells (enC en) 25)
  go_enter Tryz.func3, Tryz.ntmps3
  go_wp2_with (first
    | (go_at_call 4; refine (awake_any L _).mono ?_; rintro e w1 ⟨rfl, hb⟩; replace HB := HB.step (below_gr' hb); clear hb)
    | (go_at_call 5; refine (few_any (h.on HB.below)).mono ?_; rintro e w2 ⟨⟨q, rfl, hq⟩, hg⟩; obtain rfl : q = true := hq.2 hS; replace HB := HB.step hg; clear hg hq)
    | (go_at_call 6; refine (shNew_is L HB sd 3000 3 hd (i64_lit 3000) (i64_lit 3)).mono ?_; clear HB; rintro e w3 ⟨b, own, rfl, H⟩))
  go_loopw [12] (fun i wr => ∃ (k : Nat) (own : Nat → Prop) (st : Hs), k ≤ len ∧ i = .int .i64 k ∧ Law w wr ((shQ L b own sd k st).and ((boxP w.heap.size (.cells (enC en) 25)).and Part.emp))) (fun i _ => len - (intOf i).toNat)
  case atStart => exact ⟨0, own, _, Nat.zero_le _, rfl, H⟩
  case round =>
    clear H
    obtain ⟨k, own, st, hk', rfl, H⟩ := hrel
    by_cases hlt : k < len
    · obtain ⟨ca, off, rfl, hcell, hok⟩ := h.at k (by omega)
      have hvi := hS.ok (List.getElem_mem (by omega)) hok
      have hki : (k : Int) < (len : Int) := by omega
      have H1 := H.drew
      obtain ⟨o, ho⟩ : ∃ o, os[k] = o := ⟨_, rfl⟩
      rw [ho] at hcell hok hvi
      have HC := hide hcell
      have c1 := (hcell.on (Nat.le_refl _) H1.below).has
      have hrd := H1.read hok.bs
      have hen' := hok.en
      clear hcell hok H ho
      go_upto_region 9 with fail
      go_region_held (Has14 ca off k o) (first | exact c2 | exact c1) ((go_at_call 7; refine (shStore_is L H1 (by omega) o.iv o.a o.c o.en hvi hrd hen' _ _ rfl rfl).mono ?_; rintro e w4 ⟨rfl, own4, H4⟩; have c2 := (HC.out.on (Nat.le_refl _) H4.below).has))
      go_wp2
      go_roundw
      case rel => exact ⟨k + 1, own4, _, by omega, by go_num, H4⟩
      case measure => simp [intOf]; omega
    · obtain rfl : k = len := by omega
      clear hS h hk' hl
      have G0 := goodH_quiet H.shGood
      have HD : Hid ((quietH st).drops = []) := rfl
      obtain ⟨s1, hs1⟩ : ∃ s1, quietH st = s1 := ⟨_, rfl⟩
      rw [hs1] at G0 HD
      have HQ := hide hs1
      obtain ⟨N, hN⟩ : ∃ N, s1.ents.length = N := ⟨_, rfl⟩
      have hN8 : N ≤ 80 := by have := G0.few; omega
      have HN : Hid ((s1.ents.length : Int) = (N : Int)) := by show _ = _; rw [hN]
      have HG := hide G0
      have HT : Hid ((s1.ents.map Prod.fst).take 1000 = s1.ents.map Prod.fst) := List.take_of_length_le (by rw [List.length_map]; omega)
      have HNL := hide hN
      clear hs1 G0 hN
      go_wp2_with (first
        | (go_at_call 8; refine (shDrops_is L H _ rfl).mono ?_; clear H; rintro e w4 ⟨vd, own4, rfl, H⟩; rw [HQ.out] at H; replace H := H.drop2)
        | (go_at_call 9; refine (shLen_is L H (by omega) _ HN.out).mono ?_; clear H; rintro e w5 ⟨rfl, H⟩)
        | (go_at_call 10; refine (shAll_is L H (by omega) 1000 (by decide) (by decide)).mono ?_; clear H; rintro e w6 ⟨v, xs, rfl, hxs, H⟩; obtain ⟨pa, ca, rfl⟩ := own_shape (show _ from H.q.2.1.1.1)))
      rw [HT.out] at hxs
      have hxl : xs.length = N := by
        have := congrArg List.length hxs
        rw [List.length_map, List.length_map] at this
        rw [this]
        exact HNL.out
      rw [hxl] at H ⊢
      obtain ⟨K, hK⟩ : ∃ K, k = K := ⟨_, rfl⟩
      rw [hK] at H hlt hlen
      clear hK
      have hX := hide hxs
      clear hxs
      go_loopw [14, 72] (fun t i wr => ∃ (j : Nat), j ≤ N ∧ i = .int .i64 j ∧ t = .bool ((xs.take j).any fun x => decide (x.iv.key = key)) ∧ Law w wr ((shQ L b own4 sd K s1).and ((itemsP (.slice pa N ca) xs).and ((boxP w.heap.size (.cells (enC en) 25)).and Part.emp)))) (fun _ i _ => N - (intOf i).toNat)
      case atStart => exact ⟨0, Nat.zero_le _, rfl, rfl, H⟩
      case round =>
        clear H
        obtain ⟨j, hj, rfl, rfl, H⟩ := hrel
        by_cases hjl : j < N
        · have hji : (j : Int) < (N : Int) := by omega
          obtain ⟨x, hx⟩ : ∃ x, xs[j]? = some x := ⟨_, List.getElem?_eq_getElem (by omega)⟩
          have hr : wr.ownsRow 0 35 10 (.slice pa N ca) N (itsV (xs.map Told.it)) := by
            have h1 : wr.ownsRow 0 35 10 (.slice pa N ca) xs.length (itsV (xs.map Told.it)) := H.q.2.1.1.1
            rw [hxl] at h1
            exact h1
          obtain ⟨g, cap', e⟩ := own_form hr (by omega)
          cases e
          have row := it_row (x := x.it) hr (by rw [List.length_map, hxl]) (by rw [List.getElem?_map, hx]; rfl)
          have q0 := row 0 _ rfl
          rw [Nat.add_zero] at q0
          have q1 := row 1 _ rfl
          have q2 := row 2 _ rfl
          have q3 := row 3 _ rfl
          have q4 := row 4 _ rfl
          have q5 := row 5 _ rfl
          have q6 := row 6 _ rfl
          have q7 := row 7 _ rfl
          have q8 := row 8 _ rfl
          have q9 := row 9 _ rfl
          have kk : (wr.alloc (.cells (itC x.it) 35)).cell? ⟨wr.heap.size, 0, none⟩ = some (.string x.iv.key) := it10 (World.alloc_heap_new _ _) 0 _ rfl
          have HN1 : Hid (((xs.take (j + 1)).any fun x => decide (x.iv.key = key)) = (((xs.take j).any fun x => decide (x.iv.key = key)) || decide (x.iv.key = key))) := by
            show _ = _
            rw [List.take_add_one, hx, List.any_append]
            simp
          have H1 := H.alloc (.cells (itC x.it) 35)
          clear row hr H hx
          cases ht : (xs.take j).any fun x => decide (x.iv.key = key) with
          | true =>
            rw [ht] at HN1
            go_wp2_with (refine wpList_store_row rfl 35 _ _ rfl wr.heap.size (itC x.it) rfl rfl _ (itC zeroIt) (World.alloc_heap_new wr _) (item_size _) rfl (item_one _) ?_; rw [setRow_alloc])
            go_roundw
            case rel => exact ⟨j + 1, by omega, by go_num, by rw [HN1.out]; rfl, H1⟩
            case measure => simp [intOf]; omega
          | false =>
            rw [ht] at HN1
            by_cases hkk : x.iv.key = key
            · have HK := hide hkk
              rw [hkk] at kk
              clear hkk
              go_wp2_with (refine wpList_store_row rfl 35 _ _ rfl wr.heap.size (itC x.it) rfl rfl _ (itC zeroIt) (World.alloc_heap_new wr _) (item_size _) rfl (item_one _) ?_; rw [setRow_alloc])
              go_roundw
              case rel => exact ⟨j + 1, by omega, by go_num, by rw [HN1.out, HK.out]; simp, H1⟩
              case measure => simp [intOf]; omega
            · have hne := str_ne hkk
              have HK := hide (decide_eq_false hkk)
              clear hkk
              go_wp2_with (refine wpList_store_row rfl 35 _ _ rfl wr.heap.size (itC x.it) rfl rfl _ (itC zeroIt) (World.alloc_heap_new wr _) (item_size _) rfl (item_one _) ?_; rw [setRow_alloc])
              go_roundw
              case rel => exact ⟨j + 1, by omega, by go_num, by rw [HN1.out, HK.out]; simp, H1⟩
              case measure => simp [intOf]; omega
        · obtain rfl : j = N := by omega
          have ht : (xs.take j).any (fun x => decide (x.iv.key = key)) = (findE key s1.ents).isSome := by
            rw [List.take_of_length_le (by omega)]
            exact any_told hX.out key
          rw [ht]
          clear ht hX
          have H0 := H.drop2
          clear H
          have H := H0
          clear H0
          have M := True.intro
          rcases looks3 HG.out HD.out key en with ⟨a1, a2, a3, a4⟩ | ⟨a1, a2, a3, a4, a5, a6⟩ | ⟨a1, a2, a3, a4⟩
          · rw [a4]
            have A1 := hide a1
            have A2 := hide a2
            have A3 := hide a3
            clear a1 a2 a3 a4 HG HQ HT HNL hxl
            go_wp2_with (first
              | (refine wpList_load_row rfl 25 _ rfl w.heap.size rfl _ (enC en) _ _ H.envAt Tryz.underlying25 rfl (env_size _) ?_)
              | (go_at_call 11; have t := M; clear t M; refine (shLook_q L H (by omega) key hk en hen _ _ A1.out A2.out).mono ?_; clear H; rintro e w7 ⟨i7, rfl, own7, H⟩)
              | (refine wpList_store_row rfl 35 _ _ rfl w8.heap.size (itC i8) rfl rfl _ (itC zeroIt) (World.alloc_heap_new w8 _) (item_size _) rfl (item_one _) ?_; rw [setRow_alloc]; replace H := H.alloc (.cells (itC i8) 35))
              | (refine wpList_store_row rfl 35 _ _ rfl w7.heap.size (itC i7) rfl rfl _ (itC zeroIt) (World.alloc_heap_new w7 _) (item_size _) rfl (item_one _) ?_; rw [setRow_alloc]; replace H := H.alloc (.cells (itC i7) 35))
              | (go_at_call 8; refine (shDrops_is L H [] HD.out).mono ?_; clear H; rintro e w9 ⟨v9, own9, rfl, H⟩; obtain ⟨p9, c9, rfl⟩ := own_shape (show _ from H.q.2.1.1); rw [A3.out] at H; replace H := H.drop2)
              | (go_at_call 11; refine (shLook_q L H (by omega) key hk en hen _ _ A1.out A2.out).mono ?_; clear H; rintro e w8 ⟨i8, rfl, own8, H⟩)
              | (go_at_call 9; refine (shLen_is L H (by omega) _ HN.out).mono ?_; clear H; rintro e w10 ⟨rfl, H⟩))
            go_ret
            exact ⟨by simp, H.below⟩
          · rw [a6]
            obtain ⟨s2, e2⟩ : ∃ s2, lookH s1 key en = s2 := ⟨_, rfl⟩
            rw [e2] at a2 a3 a4 a5
            obtain ⟨s3, e3⟩ : ∃ s3, quietH s2 = s3 := ⟨_, rfl⟩
            rw [e3] at a3 a4 a5
            have hj1 := HNL.out
            have A1 := hide a1
            have A2 := hide e2
            have A3 := hide a2
            have A4 := hide e3
            have B1 := hide a3
            have B2 := hide a4
            have B3 : Hid ((s3.ents.length : Int) = (j : Int) - 1) := by show _ = _; omega
            have B4 : Hid (s3.drops = []) := by show _ = _; rw [← e3]; rfl
            have hj2 : 1 ≤ j := by omega
            clear a1 a2 a3 a4 a5 a6 HG HQ HT HNL hxl hj1 e2 e3 HD
            go_wp2_with (first
              | (refine wpList_load_row rfl 25 _ rfl w.heap.size rfl _ (enC en) _ _ H.envAt Tryz.underlying25 rfl (env_size _) ?_)
              | (refine wpList_load_row rfl 25 _ rfl w.heap.size rfl _ (enC en) _ _ H.drop2.envAt Tryz.underlying25 rfl (env_size _) ?_)
              | (go_at_call 11; have t := M; clear t M; refine (shLook_q L H (by omega) key hk en hen _ _ A1.out A2.out).mono ?_; clear H; rintro e w7 ⟨i7, rfl, own7, H⟩)
              | (refine wpList_store_row rfl 35 _ _ rfl w8.heap.size (itC i8) rfl rfl _ (itC zeroIt) (World.alloc_heap_new w8 _) (item_size _) rfl (item_one _) ?_; rw [setRow_alloc]; replace H := H.alloc (.cells (itC i8) 35))
              | (refine wpList_store_row rfl 35 _ _ rfl w7.heap.size (itC i7) rfl rfl _ (itC zeroIt) (World.alloc_heap_new w7 _) (item_size _) rfl (item_one _) ?_; rw [setRow_alloc]; replace H := H.alloc (.cells (itC i7) 35))
              | (go_at_call 8; refine (shDrops_is L H [key] A3.out).mono ?_; clear H; rintro e w9 ⟨v9, own9, rfl, H⟩; clear A3; obtain ⟨g9, c9, rfl⟩ := own_form (show w9.ownsRow 0 9 1 v9 1 (strV [key]) from H.q.2.1.1) (by decide); rw [A4.out] at H)
              | (go_at_call 11; refine (shLook_q L H (by omega) key hk en hen _ _ B1.out B2.out).mono ?_; clear H; rintro e w8 ⟨i8, rfl, own8, H⟩)
              | (go_at_call 12; refine (same_key H (World.size_alloc _ _)).mono ?_; clear H; rintro e w10 ⟨rfl, H⟩)
              | (go_at_call 9; refine (shLen_is L H (by omega) _ B3.out).mono ?_; clear H; rintro e w11 ⟨rfl, H⟩)
              | (go_at_call 8; refine (shDrops_is L H [] B4.out).mono ?_; clear H; rintro e w12 ⟨v12, own12, rfl, H⟩; obtain ⟨p12, c12, rfl⟩ := own_shape (show _ from H.q.2.1.1)))
            go_ret
            exact ⟨by simp, H.below⟩
          · rw [a4]
            have A1 := hide a1
            have A2 := hide a2
            have A3 := hide a3
            clear a1 a2 a3 a4 HG HQ HT HNL hxl
            go_wp2_with (first
              | (refine wpList_load_row rfl 25 _ rfl w.heap.size rfl _ (enC en) _ _ H.envAt Tryz.underlying25 rfl (env_size _) ?_)
              | (go_at_call 11; have t := M; clear t M; refine (shLook_q L H (by omega) key hk en hen _ _ A1.out A2.out).mono ?_; clear H; rintro e w7 ⟨i7, rfl, own7, H⟩)
              | (refine wpList_store_row rfl 35 _ _ rfl w8.heap.size (itC i8) rfl rfl _ (itC zeroIt) (World.alloc_heap_new w8 _) (item_size _) rfl (item_one _) ?_; rw [setRow_alloc]; replace H := H.alloc (.cells (itC i8) 35))
              | (refine wpList_store_row rfl 35 _ _ rfl w7.heap.size (itC i7) rfl rfl _ (itC zeroIt) (World.alloc_heap_new w7 _) (item_size _) rfl (item_one _) ?_; rw [setRow_alloc]; replace H := H.alloc (.cells (itC i7) 35))
              | (go_at_call 8; refine (shDrops_is L H [] HD.out).mono ?_; clear H; rintro e w9 ⟨v9, own9, rfl, H⟩; obtain ⟨p9, c9, rfl⟩ := own_shape (show _ from H.q.2.1.1); rw [A3.out] at H; replace H := H.drop2)
              | (go_at_call 11; refine (shLook_q L H (by omega) key hk en hen _ _ A1.out A2.out).mono ?_; clear H; rintro e w8 ⟨i8, rfl, own8, H⟩)
              | (go_at_call 9; refine (shLen_is L H (by omega) _ HN.out).mono ?_; clear H; rintro e w10 ⟨rfl, H⟩))
            go_ret
            exact ⟨by simp, H.below⟩
set_option maxRecDepth 100000 in
set_option maxHeartbeats 4000000 in
theorem shardLooks_out (L : ShardLib Sh) (sd : Nat) (hd : sd < 18446744073709551616) {w : World} {a : Option Addr} {len cap : Nat} {os : List Op11} (h : OpsAt w a len cap os) (key : ByteArray) (hkm : key.size ≤ 140737488351232) (en : En) (hS : ¬ (FewL os ∧ key.size ≤ 300)) :
    Calls Tryz.prog 3 #[.int .u64 sd, .slice a len cap, .string key, .agg (enC en)] w fun e w' => e = .returned (.bool true) ∧ Below w.heap.size w w' := by
  have HB := (Law.start w).box (.cells (enC en) 25)
  by_cases hs : FewL os
  · have hk : 300 < key.size := Nat.not_le.1 fun hk => hS ⟨hs, hk⟩
    have hki : (300 : Int) < (key.size : Int) := by omega
    clear hS
    go_enter Tryz.func3, Tryz.ntmps3
    go_wp2_with (first
      | (go_at_call 4; refine (awake_any L _).mono ?_; rintro e w1 ⟨rfl, hb⟩; replace HB := HB.step (below_gr' hb); clear hb)
      | (go_at_call 5; refine (few_any (h.on HB.below)).mono ?_; rintro e w2 ⟨⟨q, rfl, hq⟩, hg⟩; obtain rfl : q = true := hq.2 hs; replace HB := HB.step hg; clear hg hq)
      | (go_at_call 6; refine (shNew_is L HB sd 3000 3 hd (i64_lit 3000) (i64_lit 3)).mono ?_; clear HB; rintro e w3 ⟨b, own, rfl, H⟩))
    go_ret
    exact ⟨rfl, H.below⟩
  · clear hS
    go_enter Tryz.func3, Tryz.ntmps3
    go_wp2_with (first
      | (go_at_call 4; refine (awake_any L _).mono ?_; rintro e w1 ⟨rfl, hb⟩; replace HB := HB.step (below_gr' hb); clear hb)
      | (go_at_call 5; refine (few_any (h.on HB.below)).mono ?_; rintro e w2 ⟨⟨q, rfl, hq⟩, hg⟩; obtain rfl : q = false := Bool.eq_false_iff.2 fun e => hs (hq.1 e); replace HB := HB.step hg; clear hg hq)
      | (go_at_call 6; refine (shNew_is L HB sd 3000 3 hd (i64_lit 3000) (i64_lit 3)).mono ?_; clear HB; rintro e w3 ⟨b, own, rfl, H⟩))
    go_ret
    exact ⟨rfl, H.below⟩
theorem shardLooks_walk (L : ShardLib Sh) (W : World) (a0 : Int) (w0 : (Lit.int .u64 a0).wf = true) (a1 : Option Addr) (len1 cap1 : Nat) (z1 : List Op11) (w1 : OpsAt W a1 len1 cap1 z1) (s2 : ByteArray) (w2 : s2.size ≤ 140737488351232) (z3 : En) (w3 : z3.ok) :
    Calls Tryz.prog 3 #[.int .u64 a0, .slice a1 len1 cap1, .string s2, .agg (enC z3)] W fun e W' => e = .returned (.bool true) ∧ Below W.heap.size W W' := by
  obtain ⟨h0, h1⟩ := u64_wf w0
  obtain ⟨sd, rfl⟩ := Int.eq_ofNat_of_zero_le h0
  by_cases h : FewL z1 ∧ s2.size ≤ 300
  · exact shardLooks_in L sd (by omega) w1 h.1 s2 h.2 z3 w3
  · exact shardLooks_out L sd (by omega) w1 s2 w2 z3 h
end Go.Proofs.YtckjjfkfapfdaabGreat
