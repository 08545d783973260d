/- ShardBudget returns true for every input, and writes nothing that was there. Conditions: the contracts of packages shard and item. -/
import Derived.Test.YtckjjfkfapfdaaaGreatShardAw
import Derived.Test.YtckjjfkfapfdaaaGreatHasIt
import Derived.Test.YtckjjfkfapfdaaaGreatSameIt
import Derived.Test.YtckjjfkfapfdaaaGreatShardBudM
import Derived.Test.YtckjjfkfapfdaaaGreatG14Joined
import Derived.Deep.RegionHeldLaw
import Derived.Deep.QuietTactic
import Derived.BigQuiet
namespace Go.Proofs.YtckjjfkfapfdaaaGreat
open Go.RowKit Go.Shelf
variable {Sh : World → Nat → (Nat → Prop) → Nat → Nat → Hs → Prop}

def zeroOp : Op11 := ⟨0, ⟨⟨#[]⟩, [], 0, 0, 0, 0, 0, false, false, false⟩, none, 0, ⟨0, 0, 0, 0⟩⟩
def opC (o : Op11) : Array Value := o.cells.toArray
theorem op_size (o : Op11) : (Tryz.prog.info? 38).map (·.size) = some (opC o).size := by
  have h : (Tryz.prog.info? 38).map (·.size) = some 15 := by kernel_rfl
  exact h
theorem op_one (o : Op11) : (opC o).all (·.oneCell') = true := by simp [opC, Op11.cells, itC, enC, Value.oneCell']
theorem op_box {w : World} {k : Nat} {o : Op11} {t : TypeId} (h : w.heap[k]? = some (.cells (opC o) t (0, 0))) : ∀ (j : Nat) (v : Value), o.cells[j]? = some v → w.cell? ⟨k, j, none⟩ = some v := fun j v hv => by
  rw [cell_of_row w k j _ _ _ h]
  unfold opC
  simpa using hv
/-- The cells of a call's item, where the call lies in a block of its own. -/
abbrev HasO (b : Nat) (v : Iv) (a : Option Addr) (c : Nat) (w : World) : Prop := w.cell? ⟨b, 1, none⟩ = some (.string v.key) ∧ w.cell? ⟨b, 2, none⟩ = some (.slice a v.val.length c) ∧ w.cell? ⟨b, 3, none⟩ = some (.int .u32 v.fl) ∧ w.cell? ⟨b, 4, none⟩ = some (.int .i64 v.exp) ∧ w.cell? ⟨b, 5, none⟩ = some (.int .u64 v.cas) ∧ w.cell? ⟨b, 6, none⟩ = some (.int .i64 v.sec) ∧ w.cell? ⟨b, 7, none⟩ = some (.int .u64 v.seq) ∧ w.cell? ⟨b, 8, none⟩ = some (.bool v.st) ∧ w.cell? ⟨b, 9, none⟩ = some (.bool v.won) ∧ w.cell? ⟨b, 10, none⟩ = some (.bool v.seen)
theorem hasO_of {w : World} {k : Nat} {o : Op11} {t : TypeId} (h : w.heap[k]? = some (.cells (opC o) t (0, 0))) : HasO k o.iv o.a o.c w :=
  ⟨op_box h 1 _ rfl, op_box h 2 _ rfl, op_box h 3 _ rfl, op_box h 4 _ rfl, op_box h 5 _ rfl, op_box h 6 _ rfl, op_box h 7 _ rfl, op_box h 8 _ rfl, op_box h 9 _ rfl, op_box h 10 _ rfl⟩
theorem HasO.on {w w' : World} {b : Nat} {v : Iv} {a : Option Addr} {c : Nat} (h : HasO b v a c w) (hg : w.grownBy w' none) : HasO b v a c w' := by
  obtain ⟨h0, h1, h2, h3, h4, h5, h6, h7, h8, h9⟩ := h
  exact ⟨cell_grown h0 hg, cell_grown h1 hg, cell_grown h2 hg, cell_grown h3 hg, cell_grown h4 hg, cell_grown h5 hg, cell_grown h6 hg, cell_grown h7 hg, cell_grown h8 hg, cell_grown h9 hg⟩
theorem op_item {w : World} {k : Nat} {o : Op11} {t : TypeId} (h : w.heap[k]? = some (.cells (opC o) t (0, 0))) : w.rangeAt k 1 (itC o.it).toList := fun j v hv => by
  have hj : j < 10 := (List.getElem?_eq_some_iff.1 hv).1
  rw [Nat.add_comm]
  refine op_box h (j + 1) v ?_
  show ((itC o.it).toList ++ (enC o.en).toList)[j]? = _
  rw [List.getElem?_append_left hj]
  exact hv
theorem op_env {w : World} {k : Nat} {o : Op11} {t : TypeId} (h : w.heap[k]? = some (.cells (opC o) t (0, 0))) : w.rangeAt k 11 (enC o.en).toList := fun j v hv => by
  rw [Nat.add_comm]
  refine op_box h (j + 11) v ?_
  show ((itC o.it).toList ++ (enC o.en).toList)[j + 10]? = _
  rw [List.getElem?_append_right (by show 10 ≤ _; omega)]
  exact hv
theorem drew_gr11b (w : World) : w.grownBy w.drew none := ⟨rfl, rfl, rfl, Nat.le_refl _, fun _ _ _ => rfl⟩
set_option maxRecDepth 100000 in
set_option maxHeartbeats 8000000 in
theorem shardBudget_in (L : ShardLib Sh) (LI : ItemLib) (sd : Nat) (hd : sd < 18446744073709551616) (bud most : Int) (hbu : I64 bud) (hmo : I64 most) (hb0 : 0 ≤ bud) {w : World} {a : Option Addr} {len cap : Nat} {os : List Op11} (h : OpsAt w a len cap os) (hS : FewL os) :
    Calls Tryz.prog 4 #[.int .u64 sd, .int .i64 bud, .int .i64 most, .slice a len cap] w fun e w' => e = .returned (.bool true) ∧ Below w.heap.size w w' := by
  have hl := h.len_
  have hlen : len ≤ 80 := by rw [← hl]; exact hS.1
  have hbn : ¬ bud < 0 := by omega
  have HB := Law.start w
  go_enter Tryz.func4, Tryz.ntmps4
  go_wp2_with (first
    | (go_at_call 8; refine (awake_any L _).mono ?_; rintro e w1 ⟨rfl, hb⟩; replace HB := HB.step (below_gr' hb); clear hb)
    | (go_at_call 9; refine (few_any (h.on HB.below)).mono ?_; rintro e w2 ⟨⟨q, rfl, hq⟩, hg⟩; obtain rfl : q = true := hq.2 hS; replace HB := HB.step hg; clear hg hq)
    | (go_at_call 10; refine (shNew_is L HB sd bud most hd hbu hmo).mono ?_; clear HB; rintro e w3 ⟨b, own, rfl, H⟩))
  go_loopw [12, 13, 14, 15, 16, 17, 18, 19, 20, 21, 22, 23] (fun i' x13 x14 x15 x16 x17 x18 x19 x20 x21 x22 x23 wr => ∃ (k n : Nat) (own : Nat → Prop) (st : Hs), k ≤ len ∧ n ≤ k ∧ i' = .int .i64 k ∧ st.slab.bud = bud ∧ Law w wr ((shQ L b own sd n st).and Part.emp)) (fun i' _ _ _ _ _ _ _ _ _ _ _ _ => len - (intOf i').toNat)
  case atStart => exact ⟨0, 0, own, _, Nat.zero_le _, Nat.le_refl _, rfl, rfl, H⟩
  case round =>
    clear H
    obtain ⟨k, n, own, st, hk', hnk, rfl, hsb, H⟩ := hrel
    by_cases hlt : k < len
    · obtain ⟨ca, off, rfl, hcell, hok⟩ := h.at k (by omega)
      have hvi := hS.ok (List.getElem_mem (by omega)) hok
      have hki : (k : Int) < (len : Int) := by omega
      have hn9 : n ≤ 900 := by omega
      have hn8 : n + 1 ≤ 900 := by omega
      obtain ⟨o, ho⟩ : ∃ o, os[k] = o := ⟨_, rfl⟩
      rw [ho] at hcell hok hvi
      have hrg : wr.rangeAt ca (off + k * 15) o.cells := (hcell.on (Nat.le_refl _) H.below).all
      have hbs := hok.bs
      have hen := hok.en
      have hok3 := hvi.key
      have H1 := (H.box (.cells (opC o) 38)).rot
      have HKL := hide (And.intro hlt hnk)
      clear H ho hcell hok hlt hk'
      have MK : Hid True := trivial
      by_cases h2 : o.kd = 2
      · go_wp2_with (first
          | (refine wpList_load_mid rfl 38 _ rfl ca (off + k * 15) rfl o.cells _ hrg Tryz.underlying38 rfl (op_size o) ?_)
          | (refine wpList_store_row rfl 38 _ _ rfl wr.heap.size (opC o) rfl rfl _ (opC zeroOp) (World.alloc_heap_new wr _) (op_size _) rfl (op_one _) ?_; rw [setRow_alloc])
          | (go_at_call 19; refine (shDrops_is L H1 _ rfl).mono ?_; clear H1; rintro e w4 ⟨vd, own4, rfl, H⟩; replace H := H.drop2; have kd4 : w4.cell? ⟨wr.heap.size, 0, none⟩ = some (.int .i64 2) := (by rw [← h2]; exact op_box H.q.2.1.1 0 _ rfl); have kk4 : w4.cell? ⟨wr.heap.size, 1, none⟩ = some (.string o.iv.key) := op_box H.q.2.1.1 1 _ rfl)
          | (go_at_call 21; refine (shUse_is L H hn9 o.iv.key hok3 _ rfl).mono ?_; clear H; rintro e w5 ⟨⟨x5, rfl⟩, own5, H⟩; have kd5 : w5.cell? ⟨wr.heap.size, 0, none⟩ = some (.int .i64 2) := (by rw [← h2]; exact op_box H.q.2.1.1 0 _ rfl)))
        go_roundw
        case rel => exact ⟨k + 1, n, own5, useH sd (quietH st) o.iv.key, by omega, by omega, by go_num, hsb, H.drop2⟩
        case measure => simp [intOf]; omega
      · have h2b := beq_eq_false_iff_ne.2 h2
        by_cases h0 : o.kd = 0
        · have G0 := goodH_quiet H1.shGood
          obtain ⟨s0, hs0⟩ : ∃ s0, quietH st = s0 := ⟨_, rfl⟩
          have hsb0 : s0.slab.bud = bud := by rw [← hs0]; exact hsb
          rw [hs0] at G0
          obtain ⟨v1, v2, v3⟩ := store_leaves G0 (by rw [← hs0]; rfl) sd o.iv o.en
          have G1 := goodH_store G0 sd hvi o.en
          obtain ⟨s1, hs1⟩ : ∃ s1, (storeH sd s0 o.iv o.en).2 = s1 := ⟨_, rfl⟩
          obtain ⟨E0, hE0⟩ : ∃ E0, (storeH sd s0 o.iv o.en).1 = E0 := ⟨_, rfl⟩
          rw [hs1] at v1 v2 v3 G1
          rw [hE0] at v2
          rw [hsb0] at v1
          obtain ⟨s2, hs2⟩ : ∃ s2, quietH s1 = s2 := ⟨_, rfl⟩
          have G2 := goodH_quiet G1
          rw [hs2] at G2
          have hsb2 : s2.slab.bud = bud := by rw [← hs2]; exact v1
          obtain ⟨hu1, hu0⟩ := used_le G2 (by rw [hsb2]; exact hb0)
          rw [hsb2] at hu1
          obtain ⟨U, hU⟩ : ∃ U, usedS s2.slab = U := ⟨_, rfl⟩
          rw [hU] at hu0 hu1
          obtain ⟨dl, hdl⟩ : ∃ dl, s1.drops = dl := ⟨_, rfl⟩
          rw [hdl] at v3
          have hD9 : dl.length ≤ 81 := by have := G1.len.2.1; rw [hdl] at this; omega
          have v2' : E0 = 0 → ∃ (j : Nat) (e : Ent), s2.ents[j]? = some e ∧ e.1 = o.iv := fun e0 => by
            obtain ⟨c, hc⟩ := v2 e0
            obtain ⟨j, hj⟩ := List.getElem?_of_mem hc
            exact ⟨j, _, by rw [← hs2]; exact hj, rfl⟩
          obtain ⟨N, hN⟩ : ∃ N, s2.ents.length = N := ⟨_, rfl⟩
          have hN9 : N ≤ 81 := by have := G2.len.1; omega
          have HT : Hid ((s2.ents.map Prod.fst).take 1000 = s2.ents.map Prod.fst) := List.take_of_length_le (by rw [List.length_map]; omega)
          have HS0 := hide hs0
          have HS1 := hide hs1
          have HE0 := hide hE0
          have HS2 := hide hs2
          have HU := hide hU
          have HDL := hide hdl
          have HN := hide hN
          have V2 := hide v2'
          have V3 := hide v3
          have HSB := hide hsb2
          obtain ⟨D, hD⟩ : ∃ D, dl.length = D := ⟨_, rfl⟩
          rw [hD] at hD9
          have HD := hide hD
          clear hs0 hs1 hE0 hs2 hU hdl hN v1 v2 v2' v3 G0 G1 G2 hsb0 hsb2 hsb hD
          go_wp2_with (first
            | (refine wpList_load_mid rfl 38 _ rfl ca (off + k * 15) rfl o.cells _ hrg Tryz.underlying38 rfl (op_size o) ?_)
            | (refine wpList_store_row rfl 38 _ _ rfl wr.heap.size (opC o) rfl rfl _ (opC zeroOp) (World.alloc_heap_new wr _) (op_size _) rfl (op_one _) ?_; rw [setRow_alloc])
            | (go_at_call 19; have t := MK; clear t MK; refine (shDrops_is L H1 _ rfl).mono ?_; clear H1; rintro e w4 ⟨vd, own4, rfl, H⟩; rw [HS0.out] at H; replace H := H.drop2; have kd4 : w4.cell? ⟨wr.heap.size, 0, none⟩ = some (.int .i64 0) := (by rw [← h0]; exact op_box H.q.2.1.1 0 _ rfl); have r4 := op_item H.q.2.1.1; have r5 := op_env H.q.2.1.1)
            | (refine wpList_load_mid rfl 34 _ rfl wr.heap.size 1 rfl (itC o.it).toList _ r4 Tryz.underlying34 rfl (by rw [item_size o.it, Array.length_toList]) ?_)
            | (refine wpList_load_mid rfl 36 _ rfl wr.heap.size 11 rfl (enC o.en).toList _ r5 Tryz.underlying36 rfl (by rw [env_size o.en, Array.length_toList]) ?_)
            | (go_at_call 22; refine (shStore_is L H hn9 o.iv o.a o.c o.en hvi (H.read hbs) hen _ _ HE0.out HS1.out).mono ?_; clear H r4 r5 kd4; rintro e w5 ⟨rfl, own5, H⟩)
            | (go_at_call 19; refine (shDrops_is L H _ HDL.out).mono ?_; clear H; rintro e w6 ⟨vd6, own6, rfl, H⟩; rw [HS2.out] at H; obtain ⟨pd, cd, rfl⟩ := own_shape (show _ from H.q.2.1.1); rw [HD.out] at H ⊢))
          have hos : o.it.ok := hvi.it o.a o.c
          clear hrg h2b h2 h0 hok3
          generalize wr.heap.size = B0 at H ⊢
          clear wr
          go_loopw [16, 17] (fun f kk wr => ∃ (j : Nat), j ≤ D ∧ kk = .int .i64 j ∧ f = .bool (hasD o.iv.key (dl.take j)) ∧ Law w wr ((shQ L b own6 sd (n + 1) s2).and ((textsP (.slice pd D cd) dl).and ((boxP B0 (.cells (opC o) 38)).and Part.emp)))) (fun _ kk _ => D - (intOf kk).toNat)
          case atStart => exact ⟨0, Nat.zero_le _, rfl, rfl, H⟩
          case round =>
            clear H
            obtain ⟨j, hj, rfl, rfl, H⟩ := hrel
            have kk1 : wr.cell? ⟨B0, 1, none⟩ = some (.string o.iv.key) := op_box H.q.2.1.2.1.1 1 _ rfl
            by_cases hjl : j < D
            · have hji : (j : Int) < (D : Int) := by omega
              obtain ⟨x, hx⟩ : ∃ x, dl[j]? = some x := ⟨_, List.getElem?_eq_getElem (by rw [HD.out]; exact hjl)⟩
              have hr : wr.ownsRow 0 9 1 (.slice pd D cd) D (strV dl) := by
                have h1 : wr.ownsRow 0 9 1 (.slice pd D cd) dl.length (strV dl) := H.q.2.1.1
                rw [HD.out] at h1
                exact h1
              obtain ⟨g, rfl, hcx⟩ := key_cell' hr j x hx HD.out
              have HNX := hide (hasD_next hx o.iv.key)
              clear hr hx
              cases hb : hasD o.iv.key (dl.take j) with
              | true =>
                rw [hb] at HNX
                clear hcx kk1
                go_wp2
                go_quiet (fail)
                go_wp2
                go_roundw
                case rel => exact ⟨j + 1, by omega, by go_num, by rw [HNX.out]; rfl, H.drewN _⟩
                case measure => simp [intOf]; omega
              | false =>
                rw [hb] at HNX
                by_cases hxk : x = o.iv.key
                · rw [decide_eq_true hxk] at HNX
                  subst hxk
                  go_wp2
                  go_quiet (fail)
                  go_wp2
                  go_roundw
                  case rel => exact ⟨j + 1, by omega, by go_num, by rw [HNX.out]; simp, H.drewN _⟩
                  case measure => simp [intOf]; omega
                · rw [decide_eq_false hxk] at HNX
                  have hne := str_ne hxk
                  clear hxk
                  go_wp2
                  go_quiet (fail)
                  go_wp2
                  go_roundw
                  case rel => exact ⟨j + 1, by omega, by go_num, by rw [HNX.out]; rfl, H.drewN _⟩
                  case measure => simp [intOf]; omega
            · have hji : ¬ ((j : Int) < (D : Int)) := by omega
              have e1 : dl.take j = dl := List.take_of_length_le (by rw [HD.out]; omega)
              rw [e1]
              obtain ⟨fd, hfd⟩ : ∃ fd, hasD o.iv.key dl = fd := ⟨_, rfl⟩
              rw [hfd]
              clear e1 kk1 hfd hjl hj
              go_wp2_with (go_at_call 14; refine (shAll_is L H hn8 1000 (by decide) (by decide)).mono ?_; clear H; rintro e w8 ⟨v, xs, rfl, hxs, H⟩; rw [HT.out] at hxs; obtain ⟨pa, ca2, rfl⟩ := own_shape (show _ from H.q.2.1.1.1))
              have hxl : xs.length = N := by
                have := congrArg List.length hxs
                rw [List.length_map, List.length_map] at this
                rw [this]
                exact HN.out
              rw [hxl] at H ⊢
              have V4 : Hid (E0 = 0 → ∃ m, m < N ∧ (xs[m]?).map Told.iv = some o.iv) := fun e0 => by
                obtain ⟨m, e, he, hei⟩ := V2.out e0
                obtain ⟨x, hx, hxe⟩ := told_at hxs he
                exact ⟨m, by have := (List.getElem?_eq_some_iff.1 he).1; rw [HN.out] at this; exact this, by rw [hx, Option.map_some, hxe, hei]⟩
              clear hxs V2
              go_loopw [19, 20, 21] (fun hs kk x21 wr => ∃ (j : Nat) (q : Bool), j ≤ N ∧ kk = .int .i64 j ∧ hs = .bool q ∧ ((∃ m, m < j ∧ (xs[m]?).map Told.iv = some o.iv) → q = true) ∧ Law w wr ((shQ L b own6 sd (n + 1) s2).and ((itemsP (.slice pa N ca2) xs).and ((textsP (.slice pd D cd) dl).and ((boxP B0 (.cells (opC o) 38)).and Part.emp))))) (fun _ kk _ _ => N - (intOf kk).toNat)
              case atStart => exact ⟨0, false, Nat.zero_le _, rfl, rfl, fun ⟨m, hm, _⟩ => absurd hm (Nat.not_lt_zero _), H⟩
              case round =>
                clear H
                obtain ⟨j, q, hj, rfl, rfl, hq, H⟩ := hrel
                by_cases hjl : j < N
                · have hji : (j : Int) < (N : Int) := by omega
                  obtain ⟨x, hx⟩ : ∃ x, xs[j]? = some x := ⟨_, List.getElem?_eq_getElem (by omega)⟩
                  obtain ⟨g1, cap1, e1, r1, m1, b1⟩ := items_at H.q.2.1.1 hxl hx
                  cases e1
                  have hk : Hid (HasM g1 (j * 10) x.iv x.a x.c wr.drew ∧ HasO B0 o.iv o.a o.c wr.drew) := ⟨m1, hasO_of H.q.2.1.2.1.2.1.1⟩
                  have H1 := H.drew
                  have bx := b1.on (below_gr (drew_gr11b wr))
                  have bo := hbs.on H1.below
                  have HQ := hide hq
                  have HX := hide hx
                  clear hq hx r1 m1 b1 H
                  go_upto_region 26 with fail
                  go_region_held (fun w' => HasM g1 (j * 10) x.iv x.a x.c w' ∧ HasO B0 o.iv o.a o.c w') (first | exact c2 | exact hk.out) ((go_at_call 23; refine (sameIt_any x.iv o.iv x.a o.a x.c o.c _ bx bo).mono ?_; rintro e w7 ⟨q7, rfl, hq7, hg⟩; have c2 : HasM g1 (j * 10) x.iv x.a x.c w7 ∧ HasO B0 o.iv o.a o.c w7 := ⟨HasM.on hk.out.1 hg, HasO.on hk.out.2 hg⟩; have H2 := H1.step hg; have HQ7 := hide hq7; clear hq7))
                  have HR : Hid ((∃ m, m < j + 1 ∧ (xs[m]?).map Told.iv = some o.iv) → (q || q7) = true) := by
                    rintro ⟨m, hm, he⟩
                    by_cases hmj : m = j
                    · subst hmj
                      rw [HX.out, Option.map_some] at he
                      rw [HQ7.out (Option.some.inj he), Bool.or_true]
                    · rw [HQ.out ⟨m, by omega, he⟩, Bool.true_or]
                  clear HQ HQ7 HX hk c2 hg H1 bx bo
                  cases q with
                  | true =>
                    go_wp2
                    go_roundw
                    case rel => exact ⟨j + 1, true, by omega, by go_num, rfl, fun _ => rfl, H2⟩
                    case measure => simp [intOf]; omega
                  | false =>
                    go_wp2
                    go_roundw
                    case rel => exact ⟨j + 1, q7, by omega, by go_num, by simp, HR.out, H2⟩
                    case measure => simp [intOf]; omega
                · have hji : ¬ ((j : Int) < (N : Int)) := by omega
                  have hqE : E0 = 0 → q = true := fun e0 => by
                    obtain ⟨m, hm, he⟩ := V4.out e0
                    exact hq ⟨m, by omega, he⟩
                  have hu1' : ¬ bud < U := by omega
                  have hu0' : ¬ U < 0 := by omega
                  clear V4 hq hjl hj
                  by_cases hE : E0 = 0
                  · obtain rfl : q = true := hqE hE
                    subst hE
                    clear hqE
                    cases fd with
                    | false =>
                      go_wp2_with (go_at_call 15; refine (shUsed_is L H hn8 _ HU.out).mono ?_; clear H; rintro e w9 ⟨rfl, H⟩)
                      go_roundw
                      case rel => exact ⟨k + 1, n + 1, own6, s2, HKL.out.1, Nat.succ_le_succ HKL.out.2, by go_num, HSB.out, H.drop2.drop2.drop2⟩
                      case measure => (have hkl := HKL.out.1; simp [intOf]; omega)
                    | true =>
                      obtain ⟨lv, hlv⟩ : ∃ lv, liveN o.it.exp o.it.sec o.it.seq o.en = lv := ⟨_, rfl⟩
                      have HLV := hide hlv
                      clear hlv
                      cases lv with
                      | false =>
                        go_wp2_with (first
                          | (go_at_call 15; refine (shUsed_is L H hn8 _ HU.out).mono ?_; clear H; rintro e w9 ⟨rfl, H⟩; have hx1 := H.q.2.1.2.1.2.1.1; have o1 : w9.cell? ⟨B0, 1, none⟩ = some (.string o.iv.key) := op_box hx1 1 _ rfl; have o2 : w9.cell? ⟨B0, 2, none⟩ = some (.slice o.a o.iv.val.length o.c) := op_box hx1 2 _ rfl; have o3 : w9.cell? ⟨B0, 3, none⟩ = some (.int .u32 o.iv.fl) := op_box hx1 3 _ rfl; have o4 : w9.cell? ⟨B0, 4, none⟩ = some (.int .i64 o.iv.exp) := op_box hx1 4 _ rfl; have o5 : w9.cell? ⟨B0, 5, none⟩ = some (.int .u64 o.iv.cas) := op_box hx1 5 _ rfl; have o6 : w9.cell? ⟨B0, 6, none⟩ = some (.int .i64 o.iv.sec) := op_box hx1 6 _ rfl; have o7 : w9.cell? ⟨B0, 7, none⟩ = some (.int .u64 o.iv.seq) := op_box hx1 7 _ rfl; have o8 : w9.cell? ⟨B0, 8, none⟩ = some (.bool o.iv.st) := op_box hx1 8 _ rfl; have o9 : w9.cell? ⟨B0, 9, none⟩ = some (.bool o.iv.won) := op_box hx1 9 _ rfl; have o10 : w9.cell? ⟨B0, 10, none⟩ = some (.bool o.iv.seen) := op_box hx1 10 _ rfl; have o11 : w9.cell? ⟨B0, 11, none⟩ = some (.int .i64 o.en.now) := op_box hx1 11 _ rfl; have o12 : w9.cell? ⟨B0, 12, none⟩ = some (.int .u64 o.en.seq) := op_box hx1 12 _ rfl; have o13 : w9.cell? ⟨B0, 13, none⟩ = some (.int .i64 o.en.flush) := op_box hx1 13 _ rfl; have o14 : w9.cell? ⟨B0, 14, none⟩ = some (.int .u64 o.en.fseq) := op_box hx1 14 _ rfl; clear hx1)
                          | (go_at_call 24; refine (LI.live o.it o.en hos hen _).mono ?_; rintro e w11 ⟨rfl, hg⟩; replace H := H.step hg.grown; clear hg o1 o2 o3 o4 o5 o6 o7 o8 o9 o10 o11 o12 o13 o14; rw [HLV.out]))
                        go_roundw
                        case rel => exact ⟨k + 1, n + 1, own6, s2, HKL.out.1, Nat.succ_le_succ HKL.out.2, by go_num, HSB.out, H.drop2.drop2.drop2⟩
                        case measure => (have hkl := HKL.out.1; simp [intOf]; omega)
                      | true =>
                        go_wp2_with (first
                          | (go_at_call 15; refine (shUsed_is L H hn8 _ HU.out).mono ?_; clear H; rintro e w9 ⟨rfl, H⟩; have hx1 := H.q.2.1.2.1.2.1.1; have o1 : w9.cell? ⟨B0, 1, none⟩ = some (.string o.iv.key) := op_box hx1 1 _ rfl; have o2 : w9.cell? ⟨B0, 2, none⟩ = some (.slice o.a o.iv.val.length o.c) := op_box hx1 2 _ rfl; have o3 : w9.cell? ⟨B0, 3, none⟩ = some (.int .u32 o.iv.fl) := op_box hx1 3 _ rfl; have o4 : w9.cell? ⟨B0, 4, none⟩ = some (.int .i64 o.iv.exp) := op_box hx1 4 _ rfl; have o5 : w9.cell? ⟨B0, 5, none⟩ = some (.int .u64 o.iv.cas) := op_box hx1 5 _ rfl; have o6 : w9.cell? ⟨B0, 6, none⟩ = some (.int .i64 o.iv.sec) := op_box hx1 6 _ rfl; have o7 : w9.cell? ⟨B0, 7, none⟩ = some (.int .u64 o.iv.seq) := op_box hx1 7 _ rfl; have o8 : w9.cell? ⟨B0, 8, none⟩ = some (.bool o.iv.st) := op_box hx1 8 _ rfl; have o9 : w9.cell? ⟨B0, 9, none⟩ = some (.bool o.iv.won) := op_box hx1 9 _ rfl; have o10 : w9.cell? ⟨B0, 10, none⟩ = some (.bool o.iv.seen) := op_box hx1 10 _ rfl; have o11 : w9.cell? ⟨B0, 11, none⟩ = some (.int .i64 o.en.now) := op_box hx1 11 _ rfl; have o12 : w9.cell? ⟨B0, 12, none⟩ = some (.int .u64 o.en.seq) := op_box hx1 12 _ rfl; have o13 : w9.cell? ⟨B0, 13, none⟩ = some (.int .i64 o.en.flush) := op_box hx1 13 _ rfl; have o14 : w9.cell? ⟨B0, 14, none⟩ = some (.int .u64 o.en.fseq) := op_box hx1 14 _ rfl; clear hx1)
                          | (go_at_call 24; refine (LI.live o.it o.en hos hen _).mono ?_; rintro e w11 ⟨rfl, hg⟩; replace H := H.step hg.grown; clear hg o1 o2 o3 o4 o5 o6 o7 o8 o9 o10 o11 o12 o13 o14; rw [HLV.out]))
                        go_loopw [22, 23] (fun nn kk wr => ∃ (j : Nat), j ≤ D ∧ kk = .int .i64 j ∧ nn = .int .i64 (cntD o.iv.key (dl.take j) : Nat) ∧ Law w wr ((shQ L b own6 sd (n + 1) s2).and ((itemsP (.slice pa N ca2) xs).and ((textsP (.slice pd D cd) dl).and ((boxP B0 (.cells (opC o) 38)).and Part.emp))))) (fun _ kk _ => D - (intOf kk).toNat)
                        case atStart => exact ⟨0, Nat.zero_le _, rfl, rfl, H⟩
                        case round =>
                          clear H
                          obtain ⟨j, hj, rfl, rfl, H⟩ := hrel
                          have kk1 : wr.cell? ⟨B0, 1, none⟩ = some (.string o.iv.key) := op_box H.q.2.1.2.1.2.1.1 1 _ rfl
                          by_cases hjl : j < D
                          · have hji : (j : Int) < (D : Int) := by omega
                            obtain ⟨x, hx⟩ : ∃ x, dl[j]? = some x := ⟨_, List.getElem?_eq_getElem (by rw [HD.out]; exact hjl)⟩
                            have hr : wr.ownsRow 0 9 1 (.slice pd D cd) D (strV dl) := by
                              have h1 : wr.ownsRow 0 9 1 (.slice pd D cd) dl.length (strV dl) := H.q.2.1.2.1.1
                              rw [HD.out] at h1
                              exact h1
                            obtain ⟨g, rfl, hcx⟩ := key_cell' hr j x hx HD.out
                            obtain ⟨n1, n2⟩ := cntD_next hx o.iv.key
                            have hcl : cntD o.iv.key (dl.take j) ≤ 81 := by
                              have := cntD_le o.iv.key (dl.take j)
                              rw [List.length_take] at this
                              omega
                            have HN1 := hide n1
                            have HN2 := hide n2
                            clear hr hx n1 n2
                            obtain ⟨C, hC⟩ : ∃ C, cntD o.iv.key (dl.take j) = C := ⟨_, rfl⟩
                            rw [hC] at hcl HN1 HN2 ⊢
                            clear hC
                            by_cases hxk : x = o.iv.key
                            · have HC := hide (HN1.out hxk)
                              subst hxk
                              go_wp2
                              go_quiet (fail)
                              go_wp2
                              go_roundw
                              case rel => exact ⟨j + 1, by omega, by go_num, by rw [HC.out]; go_num, H.drewN _⟩
                              case measure => simp [intOf]; omega
                            · have HC := hide (HN2.out hxk)
                              have hne := str_ne hxk
                              clear hxk
                              go_wp2
                              go_quiet (fail)
                              go_wp2
                              go_roundw
                              case rel => exact ⟨j + 1, by omega, by go_num, by rw [HC.out], H.drewN _⟩
                              case measure => simp [intOf]; omega
                          · have hji : ¬ ((j : Int) < (D : Int)) := by omega
                            have e1 : dl.take j = dl := List.take_of_length_le (by rw [HD.out]; omega)
                            have hc1 := V3.out
                            rw [e1]
                            have hc1' : ¬ (1 : Int) < (cntD o.iv.key dl : Nat) := by omega
                            clear e1 kk1 hjl hj
                            generalize cntD o.iv.key dl = C at *
                            go_wp2
                            go_roundw
                            case rel => exact ⟨k + 1, n + 1, own6, s2, HKL.out.1, Nat.succ_le_succ HKL.out.2, by go_num, HSB.out, H.drop2.drop2.drop2⟩
                            case measure => (have hkl := HKL.out.1; simp [intOf]; omega)
                  · have hEb := beq_eq_false_iff_ne.2 hE
                    clear hqE hE
                    go_wp2_with (go_at_call 15; refine (shUsed_is L H hn8 _ HU.out).mono ?_; clear H; rintro e w9 ⟨rfl, H⟩)
                    go_roundw
                    case rel => exact ⟨k + 1, n + 1, own6, s2, HKL.out.1, Nat.succ_le_succ HKL.out.2, by go_num, HSB.out, H.drop2.drop2.drop2⟩
                    case measure => (have hkl := HKL.out.1; simp [intOf]; omega)
        · have h0b := beq_eq_false_iff_ne.2 h0
          go_wp2_with (first
            | (refine wpList_load_mid rfl 38 _ rfl ca (off + k * 15) rfl o.cells _ hrg Tryz.underlying38 rfl (op_size o) ?_)
            | (refine wpList_store_row rfl 38 _ _ rfl wr.heap.size (opC o) rfl rfl _ (opC zeroOp) (World.alloc_heap_new wr _) (op_size _) rfl (op_one _) ?_; rw [setRow_alloc])
            | (go_at_call 19; refine (shDrops_is L H1 _ rfl).mono ?_; clear H1; rintro e w4 ⟨vd, own4, rfl, H⟩; replace H := H.drop2; have kd4 : w4.cell? ⟨wr.heap.size, 0, none⟩ = some (.int .i64 o.kd) := op_box H.q.2.1.1 0 _ rfl))
          go_roundw
          case rel => exact ⟨k + 1, n, own4, quietH st, by omega, by omega, by go_num, hsb, H.drop2⟩
          case measure => simp [intOf]; omega
    · have hlt2 : ¬ ((k : Int) < (len : Int)) := by omega
      go_wp2
      go_ret
      exact ⟨rfl, H.below⟩
set_option maxRecDepth 100000 in
set_option maxHeartbeats 4000000 in
theorem shardBudget_out (L : ShardLib Sh) (sd : Nat) (hd : sd < 18446744073709551616) (bud most : Int) (hbu : I64 bud) (hmo : I64 most) {w : World} {a : Option Addr} {len cap : Nat} {os : List Op11} (h : OpsAt w a len cap os) (hS : ¬ (FewL os ∧ 0 ≤ bud)) :
    Calls Tryz.prog 4 #[.int .u64 sd, .int .i64 bud, .int .i64 most, .slice a len cap] w fun e w' => e = .returned (.bool true) ∧ Below w.heap.size w w' := by
  have HB := Law.start w
  by_cases hs : FewL os
  · have hbn : bud < 0 := by
      have : ¬ 0 ≤ bud := fun e => hS ⟨hs, e⟩
      omega
    clear hS
    go_enter Tryz.func4, Tryz.ntmps4
    go_wp2_with (first
      | (go_at_call 8; refine (awake_any L _).mono ?_; rintro e w1 ⟨rfl, hb⟩; replace HB := HB.step (below_gr' hb); clear hb)
      | (go_at_call 9; refine (few_any (h.on HB.below)).mono ?_; rintro e w2 ⟨⟨q, rfl, hq⟩, hg⟩; obtain rfl : q = true := hq.2 hs; replace HB := HB.step hg; clear hg hq)
      | (go_at_call 10; refine (shNew_is L HB sd bud most hd hbu hmo).mono ?_; clear HB; rintro e w3 ⟨b, own, rfl, H⟩))
    go_ret
    exact ⟨rfl, H.below⟩
  · clear hS
    go_enter Tryz.func4, Tryz.ntmps4
    go_wp2_with (first
      | (go_at_call 8; refine (awake_any L _).mono ?_; rintro e w1 ⟨rfl, hb⟩; replace HB := HB.step (below_gr' hb); clear hb)
      | (go_at_call 9; refine (few_any (h.on HB.below)).mono ?_; rintro e w2 ⟨⟨q, rfl, hq⟩, hg⟩; obtain rfl : q = false := Bool.eq_false_iff.2 fun e => hs (hq.1 e); replace HB := HB.step hg; clear hg hq)
      | (go_at_call 10; refine (shNew_is L HB sd bud most hd hbu hmo).mono ?_; clear HB; rintro e w3 ⟨b, own, rfl, H⟩))
    go_ret
    exact ⟨rfl, H.below⟩
theorem shardBudget_walk {Sl : World → Nat → (Nat → Prop) → Sb → Prop} (L : ShardLib Sh ∧ SlabLib Sl ∧ ItemLib) (W : World) (a0 : Int) (w0 : (Lit.int .u64 a0).wf = true) (a1 : Int) (w1 : (Lit.int .i64 a1).wf = true) (a2 : Int) (w2 : (Lit.int .i64 a2).wf = true) (a3 : Option Addr) (len3 cap3 : Nat) (z3 : List Op11) (w3 : OpsAt W a3 len3 cap3 z3) :
    Calls Tryz.prog 4 #[.int .u64 a0, .int .i64 a1, .int .i64 a2, .slice a3 len3 cap3] W fun e W' => e = .returned (.bool true) ∧ Below W.heap.size W W' := by
  obtain ⟨h0, h1⟩ := u64_wf w0
  obtain ⟨sd, rfl⟩ := Int.eq_ofNat_of_zero_le h0
  by_cases h : FewL z3 ∧ 0 ≤ a1
  · exact shardBudget_in L.1 L.2.2 sd (by omega) a1 a2 (i64_wf w1) (i64_wf w2) h.2 w3 h.1
  · exact shardBudget_out L.1 sd (by omega) a1 a2 (i64_wf w1) (i64_wf w2) w3 h
end Go.Proofs.YtckjjfkfapfdaaaGreat
