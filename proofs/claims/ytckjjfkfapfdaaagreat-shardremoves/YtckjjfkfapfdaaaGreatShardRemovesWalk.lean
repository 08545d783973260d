/- ShardRemoves returns true for every input, and writes nothing that was there. Conditions: the contracts of packages shard, slab and item. -/
import Derived.Test.YtckjjfkfapfdaaaGreatShardAw
import Derived.Test.YtckjjfkfapfdaaaGreatG37Joined
import Derived.Test.YtckjjfkfapfdaaaGreatSame8
import Derived.Test.YtckjjfkfapfdaaaGreatG14Joined
import Derived.Deep.RegionHeldLaw
import Derived.Deep.QuietTactic
import Derived.BigQuiet
namespace Go.Proofs.YtckjjfkfapfdaaaGreat
open Go.RowKit Go.Shelf
variable {Sh : World → Nat → (Nat → Prop) → Nat → Nat → Hs → Prop} {Sl : World → Nat → (Nat → Prop) → Sb → Prop}

/-- What a key's chunk has among these entries. -/
def bytesE (key : ByteArray) (E : List Ent) : Int := match findE key E with | none => 0 | some e => bytesC e.2.1
theorem findE_app (key : ByteArray) (A B : List Ent) : findE key (A ++ B) = (findE key A).or (findE key B) := by unfold findE; rw [List.find?_append]
theorem takeE_next {E : List Ent} {i : Nat} {e : Ent} (h : E[i]? = some e) : E.take (i + 1) = E.take i ++ [e] := by rw [List.take_add_one, h]; rfl
theorem bytesE_hit {E : List Ent} (hr : RisingE E) {i : Nat} {e : Ent} (h : E[i]? = some e) : findE e.1.key (E.take i) = none := by
  rw [findE_none]
  intro x hx hk
  have h1 : E = E.take i ++ E.drop i := (List.take_append_drop i E).symm
  have h2 : e ∈ E.drop i := by
    rw [List.mem_iff_getElem?]
    exact ⟨0, by rw [List.getElem?_drop, Nat.add_zero]; exact h⟩
  unfold RisingE at hr
  rw [h1, List.pairwise_append] at hr
  exact ltK_ne (hr.2.2 x hx e h2) hk
theorem bytesE_step {E : List Ent} (hr : RisingE E) {i : Nat} {e : Ent} {key : ByteArray} (h : E[i]? = some e) : (e.1.key = key → bytesE key (E.take (i + 1)) = bytesC e.2.1 ∧ delE key (E.take (i + 1)) = delE key (E.take i)) ∧
    (e.1.key ≠ key → bytesE key (E.take (i + 1)) = bytesE key (E.take i) ∧ (delE key (E.take (i + 1))).length = (delE key (E.take i)).length + 1 ∧ (delE key E)[(delE key (E.take i)).length]? = some e) := by
  constructor
  · rintro rfl
    constructor
    · unfold bytesE
      rw [takeE_next h, findE_app, bytesE_hit hr h]
      simp [findE]
    · rw [takeE_next h]
      simp [delE]
  · intro hne
    refine ⟨?_, ?_, ?_⟩
    · unfold bytesE
      rw [takeE_next h, findE_app]
      have : findE key [e] = none := by simp [findE, hne]
      rw [this, Option.or_none]
    · rw [takeE_next h]
      simp [delE, hne]
    · have h1 : E = E.take (i + 1) ++ E.drop (i + 1) := (List.take_append_drop (i + 1) E).symm
      have h2 : delE key E = delE key (E.take i) ++ (e :: delE key (E.drop (i + 1))) := by
        conv => lhs; rw [h1, takeE_next h]
        simp [delE, hne]
      rw [h2, List.getElem?_append_right (Nat.le_refl _), Nat.sub_self]
      rfl
theorem usedE_free {st : Sb} {c : Ck} (hc : c ∈ st.inn) : usedS (freeS st c) = usedS st - bytesC c.1 := by
  have e : (freeS st c).inn = st.inn.erase c := by unfold freeS; rw [if_pos hc]
  show sumB (freeS st c).inn = _
  rw [e, sumB_erase _ _ hc]
  rfl
theorem bytesE_pos (s : Int) : 0 < bytesC (clsOf s : Int) := by
  unfold clsOf bytesC
  repeat' split
  all_goals first | omega | (simp at *)
theorem drewN_gr11 (w : World) (n : Nat) : w.grownBy (w.drewN n) none := ⟨rfl, rfl, rfl, Nat.le_refl _, fun _ _ _ => rfl⟩
/-- What taking a key out does, twice, where nothing was dropped. -/
theorem removes {n : Nat} {st : Hs} (g : GoodH n st) (hd : st.drops = []) (key : ByteArray) :
    hasH (removeH st key) key = false ∧ removeH (removeH st key) key = removeH st key ∧ (removeH st key).ents = delE key st.ents ∧ (removeH st key).drops = [] ∧ usedS (removeH st key).slab = usedS st.slab - bytesE key st.ents ∧ hasH st key = decide (0 < bytesE key st.ents) := by
  unfold bytesE hasH
  cases hf : findE key st.ents with
  | none =>
    have e1 : removeH st key = st := by simp [removeH, hf]
    rw [e1]
    exact ⟨by rw [hf]; rfl, e1, (delE_not hf).symm, hd, by simp, rfl⟩
  | some e =>
    have e1 : removeH st key = outH st key e := by simp [removeH, hf]
    have hm := findE_some hf
    have hc : e.2 ∈ st.slab.inn := g.chunks.mem_iff.1 (List.mem_map.2 ⟨e, hm.1, rfl⟩)
    have e2 : findE key (outH st key e).ents = none := find_del_same
    have hcl := (g.cls e hm.1).2.2
    refine ⟨by rw [e1, e2]; rfl, ?_, by rw [e1]; rfl, by rw [e1]; exact hd, ?_, ?_⟩
    · rw [e1]
      unfold removeH
      rw [e2]
    · rw [e1]
      exact usedE_free hc
    · have : 0 < bytesC e.2.1 := by
        rw [hcl]
        exact bytesE_pos _
      simp [this]
set_option maxRecDepth 100000 in
set_option maxHeartbeats 8000000 in
theorem shardRemoves_in (L : ShardLib Sh) (LS : SlabLib Sl) (LI : ItemLib) (sd : Nat) (hd : sd < 18446744073709551616) {w : World} {a : Option Addr} {len cap : Nat} {os : List Op11} (h : OpsAt w a len cap os) (hS : FewL os) (key : ByteArray) (hk : key.size ≤ 300) :
    Calls Tryz.prog 7 #[.int .u64 sd, .slice a len cap, .string key] w fun e w' => e = .returned (.bool true) ∧ Below w.heap.size w w' := by
  have hl := h.len_
  have hlen : len ≤ 80 := by rw [← hl]; exact hS.1
  have hki : (key.size : Int) ≤ 300 := by omega
  have HB := Law.start w
  go_enter Tryz.func7, Tryz.ntmps7
  go_wp2_with (first
    | (go_at_call 8; refine (awake_any L _).mono ?_; rintro e w1 ⟨rfl, hb⟩; replace HB := HB.step (below_gr' hb); clear hb)
    | (go_at_call 9; refine (few_any (h.on HB.below)).mono ?_; rintro e w2 ⟨⟨q, rfl, hq⟩, hg⟩; obtain rfl : q = true := hq.2 hS; replace HB := HB.step hg; clear hg hq)
    | (go_at_call 10; refine (shNew_is L HB sd 2000 3 hd (i64_lit 2000) (i64_lit 3)).mono ?_; clear HB; rintro e w3 ⟨b, own, rfl, H⟩))
  go_loopw [10] (fun i wr => ∃ (k : Nat) (own : Nat → Prop) (st : Hs), k ≤ len ∧ i = .int .i64 k ∧ Law w wr ((shQ L b own sd k st).and Part.emp)) (fun i _ => len - (intOf i).toNat)
  case atStart => exact ⟨0, own, _, Nat.zero_le _, rfl, H⟩
  case round =>
    clear H
    obtain ⟨k, own, st, hk', rfl, H⟩ := hrel
    by_cases hlt : k < len
    · obtain ⟨ca, off, rfl, hcell, hok⟩ := h.at k (by omega)
      have hvi := hS.ok (List.getElem_mem (by omega)) hok
      have hki : (k : Int) < (len : Int) := by omega
      have H1 := H.drew
      obtain ⟨o, ho⟩ : ∃ o, os[k] = o := ⟨_, rfl⟩
      rw [ho] at hcell hok hvi
      have HC := hide hcell
      have c1 := (hcell.on (Nat.le_refl _) H1.below).has
      have hrd := H1.read hok.bs
      have hen' := hok.en
      clear hcell hok H ho
      go_upto_region 9 with fail
      go_region_held (Has14 ca off k o) (first | exact c2 | exact c1) ((go_at_call 22; refine (shStore_is L H1 (by omega) o.iv o.a o.c o.en hvi hrd hen' _ _ rfl rfl).mono ?_; rintro e w4 ⟨rfl, own4, H4⟩; have c2 := (HC.out.on (Nat.le_refl _) H4.below).has))
      go_wp2
      go_roundw
      case rel => exact ⟨k + 1, own4, _, by omega, by go_num, H4⟩
      case measure => simp [intOf]; omega
    · obtain ⟨K, hK⟩ : ∃ K, k = K := ⟨_, rfl⟩
      have hK9 : K ≤ 80 := by omega
      have hlt2 : ¬ ((k : Int) < (len : Int)) := by omega
      rw [hK] at H hlt2 ⊢
      clear hS h hk' hl hlt hK
      have G0 := goodH_quiet H.shGood
      obtain ⟨s1, hs1⟩ : ∃ s1, quietH st = s1 := ⟨_, rfl⟩
      have hd1 : s1.drops = [] := by rw [← hs1]; rfl
      rw [hs1] at G0
      obtain ⟨r1, r2, r3, r4, r5, r6⟩ := removes G0 hd1 key
      obtain ⟨s2, hs2⟩ : ∃ s2, removeH s1 key = s2 := ⟨_, rfl⟩
      rw [hs2] at r1 r2 r3 r4 r5
      obtain ⟨N, hN⟩ : ∃ N, s1.ents.length = N := ⟨_, rfl⟩
      obtain ⟨M, hM⟩ : ∃ M, s2.ents.length = M := ⟨_, rfl⟩
      have hN8 : N ≤ 80 := by have := G0.few; omega
      have hMN : M ≤ N := by rw [← hM, ← hN, r3]; exact List.length_filter_le _ _
      obtain ⟨hu0, hu1⟩ := used_bound G0.small
      obtain ⟨U, hU⟩ : ∃ U, usedS s1.slab = U := ⟨_, rfl⟩
      rw [hU] at r5 hu0 hu1
      have HQ := hide hs1
      have HQ2 := hide hs2
      have HG := hide G0
      have HT1 : Hid ((s1.ents.map Prod.fst).take 1000 = s1.ents.map Prod.fst) := List.take_of_length_le (by rw [List.length_map]; omega)
      have HT2 : Hid ((s2.ents.map Prod.fst).take 1000 = s2.ents.map Prod.fst) := List.take_of_length_le (by rw [List.length_map]; omega)
      have HN := hide hN
      have HM := hide hM
      have HU := hide hU
      have R1 := hide r1
      have R2 := hide r2
      have R3 := hide r3
      have R4 := hide r4
      have R5 := hide r5
      have R6 := hide r6
      clear hs1 hs2 G0 hN hM hU r1 r2 r3 r4 r5 r6 hd1
      go_wp2_with (first
        | (go_at_call 19; refine (shDrops_is L H _ rfl).mono ?_; clear H; rintro e w4 ⟨vd, own4, rfl, H⟩; rw [HQ.out] at H; replace H := H.drop2)
        | (go_at_call 14; have t := HT1; clear t; refine (shAll_is L H (by omega) 1000 (by decide) (by decide)).mono ?_; clear H; rintro e w6 ⟨v, xs, rfl, hxs, H⟩; rw [HT1.out] at hxs; clear HT1; obtain ⟨pa, ca, rfl⟩ := own_shape (show _ from H.q.2.1.1.1))
        | (go_at_call 15; refine (shUsed_is L H (by omega) _ HU.out).mono ?_; clear H; rintro e w7 ⟨rfl, H⟩)
        | (go_at_call 27; have t := HQ2; clear t; refine (shRemove_is L H (by omega) key hk _ R6.out).mono ?_; clear H; rintro e w8 ⟨rfl, own8, H⟩; rw [HQ2.out] at H; clear HQ2)
        | (go_at_call 27; refine (shRemove_is L H (by omega) key hk _ R1.out).mono ?_; clear H; rintro e w9 ⟨rfl, own9, H⟩; rw [R2.out] at H)
        | (go_at_call 14; refine (shAll_is L H (by omega) 1000 (by decide) (by decide)).mono ?_; clear H; rintro e w10 ⟨v2, ys, rfl, hys, H⟩; rw [HT2.out] at hys; obtain ⟨pb, cb, rfl⟩ := own_shape (show _ from H.q.2.1.1.1)))
      have hxl : xs.length = N := by
        have := congrArg List.length hxs
        rw [List.length_map, List.length_map] at this
        rw [this]
        exact HN.out
      have hyl : ys.length = M := by
        have := congrArg List.length hys
        rw [List.length_map, List.length_map] at this
        rw [this]
        exact HM.out
      rw [hxl, hyl] at H ⊢
      have HX := hide hxs
      have HY := hide hys
      clear hxs hys
      go_loopw [16, 17, 18, 19, 20] (fun kk by_ i c1 c2 wr => ∃ (j : Nat), j ≤ N ∧ i = .int .i64 j ∧ kk = .int .i64 ((delE key (s1.ents.take j)).length : Nat) ∧ by_ = .int .i64 (bytesE key (s1.ents.take j)) ∧ Law w wr ((shQ L b own9 sd K s2).and ((itemsP (.slice pb M cb) ys).and ((itemsP (.slice pa N ca) xs).and Part.emp)))) (fun _ _ i _ _ _ => N - (intOf i).toNat)
      case atStart => exact ⟨0, Nat.zero_le _, rfl, rfl, rfl, H⟩
      case round =>
        clear H
        obtain ⟨j, hj, rfl, rfl, rfl, H⟩ := hrel
        by_cases hjl : j < N
        · have hji : (j : Int) < (N : Int) := by omega
          obtain ⟨x, hx⟩ : ∃ x, xs[j]? = some x := ⟨_, List.getElem?_eq_getElem (by omega)⟩
          obtain ⟨e, he⟩ : ∃ e, s1.ents[j]? = some e := ⟨_, List.getElem?_eq_getElem (by rw [HN.out]; exact hjl)⟩
          have hxe : x.iv = e.1 := by
            have h1 := congrArg (fun l => l[j]?) HX.out
            simp only [List.getElem?_map, hx, he, Option.map_some, Option.some.injEq] at h1
            exact h1
          have hem := List.mem_of_getElem? he
          have hcl := HG.out.cls e hem
          obtain ⟨b1, b2⟩ := bytesE_step HG.out.rise he (key := key)
          have hr : wr.ownsRow 0 34 10 (.slice pa N ca) N (itsV (xs.map Told.it)) := by
            have h1 : wr.ownsRow 0 34 10 (.slice pa N ca) xs.length (itsV (xs.map Told.it)) := H.q.2.1.2.1.1.1
            rw [hxl] at h1
            exact h1
          obtain ⟨g, cap', e'⟩ := own_form hr (by omega)
          cases e'
          have row := it_row (x := x.it) hr (by rw [List.length_map, hxl]) (by rw [List.getElem?_map, hx]; rfl)
          have q0 : wr.cell? ⟨g, j * 10, none⟩ = some (.string x.iv.key) := row 0 _ rfl
          by_cases hkk : x.iv.key = key
          · obtain ⟨f1, f2⟩ := b1 (by rw [← hxe]; exact hkk)
            have q1 := row 1 _ rfl
            have q2 := row 2 _ rfl
            have q3 := row 3 _ rfl
            have q4 := row 4 _ rfl
            have q5 := row 5 _ rfl
            have q6 := row 6 _ rfl
            have q7 := row 7 _ rfl
            have q8 := row 8 _ rfl
            have q9 := row 9 _ rfl
            have hks : x.it.key.size ≤ 100000 := by have := hcl.1.key; rw [← hxe] at this; show x.iv.key.size ≤ _; omega
            have hvs : x.it.vl ≤ 100000 := by have := hcl.1.val; rw [← hxe] at this; show x.iv.val.length ≤ _; omega
            obtain ⟨z, hz⟩ : ∃ z : Int, 50 + (x.it.key.size : Nat) + (x.it.vl : Nat) = z := ⟨_, rfl⟩
            have hz8 : I64 z := by unfold I64; omega
            have hzs : sizeI e.1 = z := by rw [← hxe, ← hz]; rfl
            have hcz : I64 (clsOf z : Int) := by have := cls_lt z; unfold I64; omega
            have HF : Hid (bytesE key (s1.ents.take (j + 1)) = bytesC (clsOf z : Int)) := by show _ = _; rw [f1, hcl.2.2, hzs]
            have HF2 : Hid ((delE key (s1.ents.take (j + 1))).length = (delE key (s1.ents.take j)).length) := by show _ = _; rw [f2]
            have hxk : x.it.key = key := hkk
            rw [hxk] at hks hz
            rw [hkk] at q0
            have HXI : Hid (itC x.it = #[.string key, .slice x.it.va x.it.vl x.it.vc, .int .u32 x.it.fl, .int .i64 x.it.exp, .int .u64 x.it.cas, .int .i64 x.it.sec, .int .u64 x.it.seq, .bool x.it.st, .bool x.it.won, .bool x.it.seen]) := by
              show itC x.it = _
              rw [← hxk]
              rfl
            clear f1 f2 b1 b2 hcl hem row hr hx he hxe hkk hzs
            generalize hD : (delE key (s1.ents.take j)).length = D at *
            generalize hBy : bytesE key (s1.ents.take j) = By at *
            go_wp2_with (first
              | (go_at_call 29; rw [← HXI.out]; refine (LI.size x.it _ (by rw [hxk]; exact hks) hvs).mono ?_; rintro e w11 ⟨rfl, hg⟩; replace H := H.step hg.grown; clear hg; rw [hxk, hz])
              | (go_at_call 28; refine (LS.cls z hz8 _).mono ?_; rintro e w12 ⟨rfl, hg⟩; replace H := H.step hg; clear hg)
              | (go_at_call 30; refine (LS.bytes _ hcz _).mono ?_; rintro e w13 ⟨rfl, hg⟩; replace H := H.step hg; clear hg))
            go_roundw
            case rel => exact ⟨j + 1, by omega, by go_num, by rw [HF2.out], by rw [HF.out], H⟩
            case measure => simp [intOf]; omega
          · obtain ⟨f1, f2, f3⟩ := b2 (by rw [← hxe]; exact hkk)
            have hne := str_ne hkk
            have HF := hide f1
            have HF2 := hide f2
            rw [← R3.out] at f3
            obtain ⟨D, hD⟩ : ∃ D, (delE key (s1.ents.take j)).length = D := ⟨_, rfl⟩
            rw [hD] at f3 HF2 ⊢
            have hDM : D < M := by rw [← HM.out]; exact (List.getElem?_eq_some_iff.1 f3).1
            have hDi : (D : Int) < (M : Int) := by omega
            obtain ⟨y, hy⟩ : ∃ y, ys[D]? = some y := ⟨_, List.getElem?_eq_getElem (by omega)⟩
            have hye : y.iv = e.1 := by
              have h1 := congrArg (fun l => l[D]?) HY.out
              simp only [List.getElem?_map, hy, f3, Option.map_some, Option.some.injEq] at h1
              exact h1
            have hr2 : wr.ownsRow 0 34 10 (.slice pb M cb) M (itsV (ys.map Told.it)) := by
              have h1 : wr.ownsRow 0 34 10 (.slice pb M cb) ys.length (itsV (ys.map Told.it)) := H.q.2.1.1.1
              rw [hyl] at h1
              exact h1
            obtain ⟨g2, cap2, e2⟩ := own_form hr2 (by omega)
            cases e2
            have q1 : wr.cell? ⟨g2, D * 10, none⟩ = some (.string x.iv.key) := by
              rw [hxe, ← hye]
              exact it_row (x := y.it) hr2 (by rw [List.length_map, hyl]) (by rw [List.getElem?_map, hy]; rfl) 0 _ rfl
            clear f1 f2 f3 b1 b2 hcl hem row hr hr2 hx he hxe hkk hy hye
            generalize hBy : bytesE key (s1.ents.take j) = By at *
            go_wp2
            go_quiet (fail)
            go_wp2
            go_roundw
            case rel => exact ⟨j + 1, by omega, by go_num, by rw [HF2.out]; go_num, by rw [HF.out], H.step (drewN_gr11 _ _)⟩
            case measure => simp [intOf]; omega
        · have hjn : j = N := by omega
          have e1 : s1.ents.take j = s1.ents := List.take_of_length_le (by rw [HN.out]; omega)
          rw [e1, ← R3.out, HM.out]
          obtain ⟨B, hB⟩ : ∃ B, bytesE key s1.ents = B := ⟨_, rfl⟩
          have hB0 : 0 ≤ B ∧ B ≤ 2048 := by
            rw [← hB]
            unfold bytesE
            split
            · omega
            · exact ⟨bytes_nonneg _, bytes_le _⟩
          have R5' := R5.out
          rw [hB] at R5' ⊢
          have HU2 := hide R5'
          have hw : IntKind.i64.wrap (U - B) = U - B := by rw [IntKind.wrap_i64]; omega
          have hji : ¬ ((j : Int) < (N : Int)) := by omega
          have hjb : decide ((j : Int) < (N : Int)) = false := decide_eq_false hji
          clear e1 R5 R5' hB HG HX HY hjn
          by_cases hp : 0 < B
          · have hpb : decide (0 < B) = true := decide_eq_true hp
            go_wp2_with (first
              | (go_at_call 15; refine (shUsed_is L H (by omega) _ HU2.out).mono ?_; clear H; rintro e w11 ⟨rfl, H⟩)
              | (go_at_call 19; refine (shDrops_is L H [] R4.out).mono ?_; clear H; rintro e w12 ⟨vd2, own12, rfl, H⟩; obtain ⟨pd, cd, rfl⟩ := own_shape (show _ from H.q.2.1.1)))
            go_ret
            exact ⟨by simp, H.below⟩
          · have hpb : decide (0 < B) = false := decide_eq_false hp
            go_wp2_with (first
              | (go_at_call 15; refine (shUsed_is L H (by omega) _ HU2.out).mono ?_; clear H; rintro e w11 ⟨rfl, H⟩)
              | (go_at_call 19; refine (shDrops_is L H [] R4.out).mono ?_; clear H; rintro e w12 ⟨vd2, own12, rfl, H⟩; obtain ⟨pd, cd, rfl⟩ := own_shape (show _ from H.q.2.1.1)))
            go_ret
            exact ⟨by simp, H.below⟩
set_option maxRecDepth 100000 in
set_option maxHeartbeats 4000000 in
theorem shardRemoves_out (L : ShardLib Sh) (sd : Nat) (hd : sd < 18446744073709551616) {w : World} {a : Option Addr} {len cap : Nat} {os : List Op11} (h : OpsAt w a len cap os) (key : ByteArray) (hkm : key.size ≤ 140737488351232) (hS : ¬ (FewL os ∧ key.size ≤ 300)) :
    Calls Tryz.prog 7 #[.int .u64 sd, .slice a len cap, .string key] w fun e w' => e = .returned (.bool true) ∧ Below w.heap.size w w' := by
  have HB := Law.start w
  by_cases hs : FewL os
  · have hk : 300 < key.size := Nat.not_le.1 fun hk => hS ⟨hs, hk⟩
    have hki : (300 : Int) < (key.size : Int) := by omega
    clear hS
    go_enter Tryz.func7, Tryz.ntmps7
    go_wp2_with (first
      | (go_at_call 8; refine (awake_any L _).mono ?_; rintro e w1 ⟨rfl, hb⟩; replace HB := HB.step (below_gr' hb); clear hb)
      | (go_at_call 9; refine (few_any (h.on HB.below)).mono ?_; rintro e w2 ⟨⟨q, rfl, hq⟩, hg⟩; obtain rfl : q = true := hq.2 hs; replace HB := HB.step hg; clear hg hq)
      | (go_at_call 10; refine (shNew_is L HB sd 2000 3 hd (i64_lit 2000) (i64_lit 3)).mono ?_; clear HB; rintro e w3 ⟨b, own, rfl, H⟩))
    go_ret
    exact ⟨rfl, H.below⟩
  · clear hS
    go_enter Tryz.func7, Tryz.ntmps7
    go_wp2_with (first
      | (go_at_call 8; refine (awake_any L _).mono ?_; rintro e w1 ⟨rfl, hb⟩; replace HB := HB.step (below_gr' hb); clear hb)
      | (go_at_call 9; refine (few_any (h.on HB.below)).mono ?_; rintro e w2 ⟨⟨q, rfl, hq⟩, hg⟩; obtain rfl : q = false := Bool.eq_false_iff.2 fun e => hs (hq.1 e); replace HB := HB.step hg; clear hg hq)
      | (go_at_call 10; refine (shNew_is L HB sd 2000 3 hd (i64_lit 2000) (i64_lit 3)).mono ?_; clear HB; rintro e w3 ⟨b, own, rfl, H⟩))
    go_ret
    exact ⟨rfl, H.below⟩
theorem shardRemoves_walk (L : ShardLib Sh ∧ SlabLib Sl ∧ ItemLib) (W : World) (a0 : Int) (w0 : (Lit.int .u64 a0).wf = true) (a1 : Option Addr) (len1 cap1 : Nat) (z1 : List Op11) (w1 : OpsAt W a1 len1 cap1 z1) (s2 : ByteArray) (w2 : s2.size ≤ 140737488351232) :
    Calls Tryz.prog 7 #[.int .u64 a0, .slice a1 len1 cap1, .string s2] W fun e W' => e = .returned (.bool true) ∧ Below W.heap.size W W' := by
  obtain ⟨h0, h1⟩ := u64_wf w0
  obtain ⟨sd, rfl⟩ := Int.eq_ofNat_of_zero_le h0
  by_cases h : FewL z1 ∧ s2.size ≤ 300
  · exact shardRemoves_in L.1 L.2.1 L.2.2 sd (by omega) w1 h.1 s2 h.2
  · exact shardRemoves_out L.1 sd (by omega) w1 s2 w2 h
end Go.Proofs.YtckjjfkfapfdaaaGreat
