/- The shard and the document's own one beside each other: calls of the shard, and whether both have the same items. Conditions: the contracts of package shard; at most 900 stores. A call of layer 11 in a block of its own. Conditions: none. One call, by the shard and by the document's own one: both answer the same, and have the same behind it. Conditions: the contracts of package shard; at most 800 stores. One look, by the shard and by the document's own one. Conditions: the contracts of package shard; at most 800 stores. -/
import Derived.Test.YtckjjfkfapfdaaaGreatG44Joined
import Derived.Test.YtckjjfkfapfdaaaGreatG48Joined
import Derived.Test.YtckjjfkfapfdaaaGreatShardAw
import Derived.Test.YtckjjfkfapfdaaaGreatG42Joined
namespace Go.Proofs.YtckjjfkfapfdaaaGreat
open Go.RowKit Go.Shelf
variable {Sh : World → Nat → (Nat → Prop) → Nat → Nat → Hs → Prop}

section
variable {w0 w : World} {r sd n b sd2 : Nat} {own : Nat → Prop} {P : Rp} {s st : Hs} {R : Part}
theorem RefAt.sh {L : ShardLib Sh} (H : RefAt w0 w r sd P s ((shQ L b own sd2 n st).and R)) : Law w0 w ((shQ L b own sd2 n st).and ((allP (refL w0.heap.size r sd P s)).and R)) := H.law.rot
theorem RefAt.ofSh {L : ShardLib Sh} (he : P.es.map Re.ent = s.ents) (N : Law w0 w ((shQ L b own sd2 n st).and ((allP (refL w0.heap.size r sd P s)).and R))) : RefAt w0 w r sd P s ((shQ L b own sd2 n st).and R) := ⟨N.rot, he⟩
theorem bStore (L : ShardLib Sh) (H : RefAt w0 w r sd P s ((shQ L b own sd2 n st).and R)) (hn : n ≤ 900) (i : Iv) (a : Option Addr) (c : Nat) (en : En) (hi : i.ok) (hb : Bs w0 a i.val.length c (ints i.val)) (hen : en.ok) (x : Int) (t : Hs) (hx : (storeH sd2 st i en).1 = x) (ht : (storeH sd2 st i en).2 = t) :
    Calls Tryz.prog 22 #[.pointer (some ⟨b, 0, none⟩), .agg (itC (itOf i a c)), .agg (enC en)] w fun e w' => e = .returned (.int .i64 x) ∧ ∃ own', RefAt w0 w' r sd P s ((shQ L b own' sd2 (n + 1) t).and R) :=
  (shStore_is L H.sh hn i a c en hi (H.sh.read hb) hen x t hx ht).mono fun _ _ ⟨h1, own', N⟩ => ⟨h1, own', RefAt.ofSh H.ents N⟩
theorem bUse (L : ShardLib Sh) (H : RefAt w0 w r sd P s ((shQ L b own sd2 n st).and R)) (hn : n ≤ 900) (k : ByteArray) (hk : k.size ≤ 300) (t : Hs) (ht : useH sd2 st k = t) :
    Calls Tryz.prog 21 #[.pointer (some ⟨b, 0, none⟩), .string k] w fun e w' => (∃ v, e = .returned v) ∧ ∃ own', RefAt w0 w' r sd P s ((shQ L b own' sd2 n t).and R) :=
  (shUse_is L H.sh hn k hk t ht).mono fun _ _ ⟨h1, own', N⟩ => ⟨h1, own', RefAt.ofSh H.ents N⟩
theorem bUpdate (L : ShardLib Sh) (H : RefAt w0 w r sd P s ((shQ L b own sd2 n st).and R)) (hn : n ≤ 900) (i : Iv) (a : Option Addr) (c : Nat) (hi : i.ok) (hb : Bs w0 a i.val.length c (ints i.val)) (x : Int) (t : Hs) (hx : updErr st i = x) (ht : updH st i = t) :
    Calls Tryz.prog 26 #[.pointer (some ⟨b, 0, none⟩), .agg (itC (itOf i a c))] w fun e w' => e = .returned (.int .i64 x) ∧ ∃ own', RefAt w0 w' r sd P s ((shQ L b own' sd2 n t).and R) := by
  subst hx ht
  exact (shUpdate_is L H.sh hn i a c hi (H.sh.read hb)).mono fun _ _ ⟨h1, own', N⟩ => ⟨h1, own', RefAt.ofSh H.ents N⟩
theorem bRemove (L : ShardLib Sh) (H : RefAt w0 w r sd P s ((shQ L b own sd2 n st).and R)) (hn : n ≤ 900) (k : ByteArray) (hk : k.size ≤ 300) (q : Bool) (hq : hasH st k = q) (t : Hs) (ht : removeH st k = t) :
    Calls Tryz.prog 27 #[.pointer (some ⟨b, 0, none⟩), .string k] w fun e w' => e = .returned (.bool q) ∧ ∃ own', RefAt w0 w' r sd P s ((shQ L b own' sd2 n t).and R) := by
  subst ht
  exact (shRemove_is L H.sh hn k hk q hq).mono fun _ _ ⟨h1, own', N⟩ => ⟨h1, own', RefAt.ofSh H.ents N⟩
theorem bUsed (L : ShardLib Sh) (H : RefAt w0 w r sd P s ((shQ L b own sd2 n st).and R)) (hn : n ≤ 900) (x : Int) (hx : usedS st.slab = x) :
    Calls Tryz.prog 15 #[.pointer (some ⟨b, 0, none⟩)] w fun e w' => e = .returned (.int .i64 x) ∧ RefAt w0 w' r sd P s ((shQ L b own sd2 n st).and R) :=
  (shUsed_is L H.sh hn x hx).mono fun _ _ ⟨h1, N⟩ => ⟨h1, RefAt.ofSh H.ents N⟩
theorem bLen (L : ShardLib Sh) (H : RefAt w0 w r sd P s ((shQ L b own sd2 n st).and R)) (hn : n ≤ 900) (x : Int) (hx : (st.ents.length : Int) = x) :
    Calls Tryz.prog 17 #[.pointer (some ⟨b, 0, none⟩)] w fun e w' => e = .returned (.int .i64 x) ∧ RefAt w0 w' r sd P s ((shQ L b own sd2 n st).and R) :=
  (shLen_is L H.sh hn x hx).mono fun _ _ ⟨h1, N⟩ => ⟨h1, RefAt.ofSh H.ents N⟩
theorem bDrops (L : ShardLib Sh) (H : RefAt w0 w r sd P s ((shQ L b own sd2 n st).and R)) (l : List ByteArray) (hl : st.drops = l) :
    Calls Tryz.prog 19 #[.pointer (some ⟨b, 0, none⟩)] w fun e w' => ∃ v own', e = .returned v ∧ RefAt w0 w' r sd P s ((textsP v l).and ((shQ L b own' sd2 n (quietH st)).and R)) :=
  (shDrops_is L H.sh l hl).mono fun _ _ ⟨v, own', h1, N⟩ => ⟨v, own', h1, ⟨N.rin.rot.rin, H.ents⟩⟩
theorem bLook (L : ShardLib Sh) (H : RefAt w0 w r sd P s ((shQ L b own sd2 n st).and R)) (hn : n ≤ 900) (k : ByteArray) (hk : k.size ≤ 300) (en : En) (hen : en.ok) (t : Hs) (ht : lookH st k en = t) :
    Calls Tryz.prog 25 #[.pointer (some ⟨b, 0, none⟩), .string k, .agg (enC en)] w fun e w' => lookOut st k en e fun B => ∃ own', RefAt w0 w' r sd P s (B.and ((shQ L b own' sd2 n t).and R)) := by
  subst ht
  refine (shLook_is L H.sh hn k hk en hen).mono ?_
  rintro e w' (⟨h1, h2, own', N⟩ | ⟨y, a, c, h1, h2, own', N⟩)
  · exact .inl ⟨h1, h2, own', ⟨N.rin.rot.rin, H.ents⟩⟩
  · exact .inr ⟨y, a, c, h1, h2, own', ⟨N.rin.rot.rin, H.ents⟩⟩
theorem bAll (L : ShardLib Sh) (H : RefAt w0 w r sd P s ((shQ L b own sd2 n st).and R)) (hn : n ≤ 900) (hl : st.ents.length ≤ 1000) :
    Calls Tryz.prog 14 #[.pointer (some ⟨b, 0, none⟩), .int .i64 1000] w fun e w' => ∃ v xs, e = .returned v ∧ xs.map Told.iv = st.ents.map Prod.fst ∧ RefAt w0 w' r sd P s ((itemsP v xs).and ((shQ L b own sd2 n st).and R)) := by
  refine (shAll_is L H.sh hn 1000 (by decide) (by decide)).mono ?_
  rintro e w' ⟨v, xs, h1, h2, N⟩
  refine ⟨v, xs, h1, ?_, ⟨N.rin.rot.rin, H.ents⟩⟩
  rw [h2, List.take_of_length_le (by rw [List.length_map]; exact hl)]
theorem drewB_gr (w : World) : w.grownBy w.drew none := ⟨rfl, rfl, rfl, Nat.le_refl _, fun _ _ _ => rfl⟩
/-- Both have the same items. -/
abbrev SI (g1 g2 j : Nat) (v1 v2 : Iv) (a1 a2 : Option Addr) (c1 c2 : Nat) (w : World) : Prop := HasM g1 (j * 10) v1 a1 c1 w ∧ HasM g2 (j * 12) v2 a2 c2 w
set_option maxRecDepth 100000 in
set_option maxHeartbeats 4000000 in
theorem items_any {v : Value} {xs : List Told} (H : RefAt w0 w r sd P s ((itemsP v xs).and R)) (hxs : xs.map Told.iv = P.es.map fun e => e.t.iv) :
    Calls Tryz.prog 13 #[v, P.vL] w fun e w' => e = .returned (.bool true) ∧ w.grownBy w' none := by
  obtain ⟨N, hN⟩ : ∃ N, xs.length = N := ⟨_, rfl⟩
  have hN2 : P.es.length = N := by have := congrArg List.length hxs; rw [List.length_map, List.length_map] at this; omega
  obtain ⟨pb, cb, hv, hc1, hc2⟩ := H.slice hN2
  unfold maxLen at hc2
  have hr : w.ownsRow 0 34 10 v xs.length (itsV (xs.map Told.it)) := H.law.q.2.1.1.1
  rw [hN] at hr
  obtain ⟨pa, ca, rfl⟩ := own_shape hr
  obtain ⟨hd1, hd2⟩ := own_cap hr
  unfold maxLen at hd2
  have HV := hide hv
  have HN := hide hN
  have HN2 := hide hN2
  have HX := hide hxs
  rw [hv]
  clear hr hv hN hN2 hxs
  go_enter Tryz.func13, Tryz.ntmps13
  go_wp2
  go_loopw [5, 6] (fun i x6 wr => ∃ j : Nat, j ≤ N ∧ i = .int .i64 j ∧ RefAt w0 wr r sd P s ((itemsP (.slice pa N ca) xs).and R) ∧ w.grownBy wr none) (fun i _ _ => N - (intOf i).toNat)
  case atStart => exact ⟨0, Nat.zero_le _, rfl, H, gr_refl _ _⟩
  case round =>
    clear H
    obtain ⟨j, hj, rfl, H, hg⟩ := hrel
    by_cases hlt : j < N
    · have hji : (j : Int) < (N : Int) := by omega
      obtain ⟨e, he⟩ : ∃ e, P.es[j]? = some e := ⟨_, List.getElem?_eq_getElem (by rw [HN2.out]; exact hlt)⟩
      obtain ⟨x, hx⟩ : ∃ x, xs[j]? = some x := ⟨_, List.getElem?_eq_getElem (by rw [HN.out]; exact hlt)⟩
      have hxe : x.iv = e.t.iv := by
        have h1 := congrArg (fun l => l[j]?) HX.out
        simp only [List.getElem?_map, hx, he, Option.map_some, Option.some.injEq] at h1
        exact h1
      have H1 := H.drew
      obtain ⟨g1, cap1, e1, r1, m1, b1⟩ := items_at (w := wr.drew) H1.law.q.2.1.1 HN.out hx
      cases e1
      obtain ⟨g2, e2, hcs⟩ := H1.reAt HN2.out HV.out he
      cases e2
      have m2 : HasM g2 (j * 12) e.t.iv e.t.a e.t.c wr.drew := hasM_of fun k u hu => hcs k u (re_itemU hu)
      have hk := hide (show SI g1 g2 j x.iv e.t.iv x.a e.t.a x.c e.t.c wr.drew from ⟨m1, m2⟩)
      have b2 := H1.tale he
      have HXE := hide hxe
      have HG := hide hg
      clear hxe hcs m1 m2 r1 he hx H hg
      go_upto_region 6 with fail
      go_region_held (SI g1 g2 j x.iv e.t.iv x.a e.t.a x.c e.t.c) (first | exact c2 | exact hk.out) ((go_at_call 23; refine (sameIt_any x.iv e.t.iv x.a e.t.a x.c e.t.c _ b1 b2).mono ?_; rintro e' w7 ⟨q, rfl, hq, hg⟩; obtain rfl : q = true := hq HXE.out; have c2 : SI g1 g2 j x.iv e.t.iv x.a e.t.a x.c e.t.c w7 := ⟨HasM.on hk.out.1 hg, HasM.on hk.out.2 hg⟩; have H2 := H1.step hg; have HG2 := hide (gr_trans (gr_trans HG.out (drewB_gr wr)) hg)))
      clear c2 H1 b1 b2
      go_wp2
      go_roundw
      case rel => exact ⟨j + 1, hlt, by go_num, H2, HG2.out⟩
      case measure => simp [intOf]; omega
    · have hji : ¬ ((j : Int) < (N : Int)) := by omega
      go_wp2
      go_ret
      exact ⟨rfl, hg⟩
end
end Go.Proofs.YtckjjfkfapfdaaaGreat

namespace Go.Proofs.YtckjjfkfapfdaaaGreat
open Go.RowKit Go.Shelf

def zeroOp : Op11 := ⟨0, ⟨⟨#[]⟩, [], 0, 0, 0, 0, 0, false, false, false⟩, none, 0, ⟨0, 0, 0, 0⟩⟩
def opC (o : Op11) : Array Value := o.cells.toArray
theorem op_size (o : Op11) : (Tryz.prog.info? 38).map (·.size) = some (opC o).size := by
  have h : (Tryz.prog.info? 38).map (·.size) = some 15 := by kernel_rfl
  exact h
theorem op_one (o : Op11) : (opC o).all (·.oneCell') = true := by simp [opC, Op11.cells, itC, enC, Value.oneCell']
theorem op_box {w : World} {k : Nat} {o : Op11} {t : TypeId} (h : w.heap[k]? = some (.cells (opC o) t (0, 0))) : ∀ (j : Nat) (v : Value), o.cells[j]? = some v → w.cell? ⟨k, j, none⟩ = some v := fun j v hv => by
  rw [cell_of_row w k j _ _ _ h]
  unfold opC
  simpa using hv
/-- The cells of a call's item, where the call lies in a block of its own. -/
abbrev HasO (b : Nat) (v : Iv) (a : Option Addr) (c : Nat) (w : World) : Prop := w.cell? ⟨b, 1, none⟩ = some (.string v.key) ∧ w.cell? ⟨b, 2, none⟩ = some (.slice a v.val.length c) ∧ w.cell? ⟨b, 3, none⟩ = some (.int .u32 v.fl) ∧ w.cell? ⟨b, 4, none⟩ = some (.int .i64 v.exp) ∧ w.cell? ⟨b, 5, none⟩ = some (.int .u64 v.cas) ∧ w.cell? ⟨b, 6, none⟩ = some (.int .i64 v.sec) ∧ w.cell? ⟨b, 7, none⟩ = some (.int .u64 v.seq) ∧ w.cell? ⟨b, 8, none⟩ = some (.bool v.st) ∧ w.cell? ⟨b, 9, none⟩ = some (.bool v.won) ∧ w.cell? ⟨b, 10, none⟩ = some (.bool v.seen)
theorem hasO_of {w : World} {k : Nat} {o : Op11} {t : TypeId} (h : w.heap[k]? = some (.cells (opC o) t (0, 0))) : HasO k o.iv o.a o.c w :=
  ⟨op_box h 1 _ rfl, op_box h 2 _ rfl, op_box h 3 _ rfl, op_box h 4 _ rfl, op_box h 5 _ rfl, op_box h 6 _ rfl, op_box h 7 _ rfl, op_box h 8 _ rfl, op_box h 9 _ rfl, op_box h 10 _ rfl⟩
theorem HasO.on {w w' : World} {b : Nat} {v : Iv} {a : Option Addr} {c : Nat} (h : HasO b v a c w) (hg : w.grownBy w' none) : HasO b v a c w' := by
  obtain ⟨h0, h1, h2, h3, h4, h5, h6, h7, h8, h9⟩ := h
  exact ⟨cell_grown h0 hg, cell_grown h1 hg, cell_grown h2 hg, cell_grown h3 hg, cell_grown h4 hg, cell_grown h5 hg, cell_grown h6 hg, cell_grown h7 hg, cell_grown h8 hg, cell_grown h9 hg⟩
theorem op_item {w : World} {k : Nat} {o : Op11} {t : TypeId} (h : w.heap[k]? = some (.cells (opC o) t (0, 0))) : w.rangeAt k 1 (itC o.it).toList := fun j v hv => by
  have hj : j < 10 := (List.getElem?_eq_some_iff.1 hv).1
  rw [Nat.add_comm]
  refine op_box h (j + 1) v ?_
  show ((itC o.it).toList ++ (enC o.en).toList)[j]? = _
  rw [List.getElem?_append_left hj]
  exact hv
theorem op_env {w : World} {k : Nat} {o : Op11} {t : TypeId} (h : w.heap[k]? = some (.cells (opC o) t (0, 0))) : w.rangeAt k 11 (enC o.en).toList := fun j v hv => by
  rw [Nat.add_comm]
  refine op_box h (j + 11) v ?_
  show ((itC o.it).toList ++ (enC o.en).toList)[j + 10]? = _
  rw [List.getElem?_append_right (by show 10 ≤ _; omega)]
  exact hv
/-- The cells of its env, too. -/
abbrev HasOE (b : Nat) (o : Op11) (w : World) : Prop := HasO b o.iv o.a o.c w ∧ w.cell? ⟨b, 11, none⟩ = some (.int .i64 o.en.now) ∧ w.cell? ⟨b, 12, none⟩ = some (.int .u64 o.en.seq) ∧ w.cell? ⟨b, 13, none⟩ = some (.int .i64 o.en.flush) ∧ w.cell? ⟨b, 14, none⟩ = some (.int .u64 o.en.fseq)
theorem hasOE_of {w : World} {k : Nat} {o : Op11} {t : TypeId} (h : w.heap[k]? = some (.cells (opC o) t (0, 0))) : HasOE k o w := ⟨hasO_of h, op_box h 11 _ rfl, op_box h 12 _ rfl, op_box h 13 _ rfl, op_box h 14 _ rfl⟩
end Go.Proofs.YtckjjfkfapfdaaaGreat

namespace Go.Proofs.YtckjjfkfapfdaaaGreat
open Go.RowKit Go.Shelf
variable {Sh : World → Nat → (Nat → Prop) → Nat → Nat → Hs → Prop}

theorem store_bud {n : Nat} {st : Hs} (g : GoodH n st) (sd : Nat) (i : Iv) (en : En) : (storeH sd st i en).2.slab.bud = st.slab.bud := by
  unfold storeH
  by_cases hsz : 2048 < sizeI i
  · rw [if_pos hsz]
  · rw [if_neg hsz]
    have gl := goodH_look g i.key en
    obtain ⟨rm, _, _⟩ := room_good sd i (livingH st i.key en) en _ _ rfl gl
    have hbud : (roomH sd i (livingH st i.key en) en (lookH st i.key en)).2.slab.bud = st.slab.bud := rm.bud.trans look_drops.2.1
    by_cases h0 : (roomH sd i (livingH st i.key en) en (lookH st i.key en)).1 = 0
    · rw [if_pos h0]
      show (takeS (freedH _ _) _).bud = _
      rw [take_bud]
      unfold freedH
      split
      · exact hbud
      · exact (free_bud _ _).trans hbud
    · rw [if_neg h0]
      exact hbud
theorem remove_bud (st : Hs) (k : ByteArray) : (removeH st k).slab.bud = st.slab.bud := by
  unfold removeH
  split
  · rfl
  · exact free_bud _ _
theorem upd_bud (st : Hs) (i : Iv) : (updH st i).slab.bud = st.slab.bud := by
  unfold updH
  split
  · rfl
  · split <;> rfl
section
variable {w0 w : World} {r sd n b : Nat} {own : Nat → Prop} {P : Rp} {s st : Hs} {R A : Part}
/-- Both have the same behind a call. -/
def DoneB (L : ShardLib Sh) (w0 : World) (r b sd n : Nat) (bud : Int) (R : Part) (e : Ending) (w' : World) : Prop :=
  e = .returned (.bool true) ∧ ∃ P' own' n' st', n' ≤ n + 1 ∧ st'.slab.bud = bud ∧ RefAt w0 w' r sd P' st' ((shQ L b own' sd n' st').and R)
theorem RefAt.opS {k : Nat} {o : Op11} {t : TypeId} (H : RefAt w0 w r sd P s (A.and ((boxP k (.cells (opC o) t)).and R))) : HasOE k o w := hasOE_of H.boxAt2
theorem RefAt.shG {L : ShardLib Sh} (H : RefAt w0 w r sd P s ((shQ L b own sd n st).and R)) : GoodH n st := L.good H.law.q.2.1.1
set_option maxRecDepth 100000 in
set_option maxHeartbeats 8000000 in
theorem do_store (L : ShardLib Sh) (H : RefAt w0 w r sd P st ((shQ L b own sd n st).and R)) (hn : n ≤ 800) (hbud : I64 st.slab.bud) (o : Op11) (hvi : o.iv.ok) (hen : o.en.ok) (hbs : Bs w0 o.a o.iv.val.length o.c (ints o.iv.val)) (hk : o.kd = 0) :
    Calls Tryz.prog 12 #[.pointer (some ⟨b, 0, none⟩), .pointer (some ⟨r, 0, none⟩), .agg (opC o)] w (DoneB L w0 r b sd n st.slab.bud R) := by
  have hG := H.shG
  obtain ⟨X, hX⟩ : ∃ X, (storeH sd st o.iv o.en).1 = X := ⟨_, rfl⟩
  obtain ⟨T, hT⟩ : ∃ T, (storeH sd st o.iv o.en).2 = T := ⟨_, rfl⟩
  have HB : Hid (T.slab.bud = st.slab.bud) := by show T.slab.bud = _; rw [← hT]; exact store_bud hG sd o.iv o.en
  have HX := hide hX
  have HT := hide hT
  have HGd := hide hG
  replace H := (H.box (.cells (opC o) 38)).swap
  have k0 : (w.alloc (.cells (opC o) 38)).cell? ⟨w.heap.size, 0, none⟩ = some (.int .i64 0) := by rw [← hk]; exact op_box H.boxAt2 0 _ rfl
  replace H := hide H.drew
  clear hX hT hG hk
  go_enter Tryz.func12, Tryz.ntmps12
  go_upto_region 3 with fail
  go_region_held (HasOE w.heap.size o) (exact H.out.opS) (first
    | (go_at_call 22; refine (bStore L H.out (by omega) o.iv o.a o.c o.en hvi hbs hen _ _ HX.out HT.out).mono ?_; rintro e w2 ⟨rfl, own2, H2⟩; replace H := hide H2; clear H2)
    | (go_at_call 37; refine (rstore_any H.out HGd.out (by omega) hbud o.iv hvi o.a o.c hbs o.en _ _ HX.out HT.out).mono ?_; rintro e w3 ⟨rfl, P3, H3⟩; replace H := hide H3; clear H3))
  all_goals
    go_wp2
    go_ret
    exact ⟨by simp, _, _, _, _, Nat.le_refl _, HB.out, H.out.swap.less⟩
set_option maxRecDepth 100000 in
set_option maxHeartbeats 8000000 in
theorem do_update (L : ShardLib Sh) (H : RefAt w0 w r sd P st ((shQ L b own sd n st).and R)) (hn : n ≤ 800) (o : Op11) (hvi : o.iv.ok) (hbs : Bs w0 o.a o.iv.val.length o.c (ints o.iv.val)) (hk : o.kd = 3) :
    Calls Tryz.prog 12 #[.pointer (some ⟨b, 0, none⟩), .pointer (some ⟨r, 0, none⟩), .agg (opC o)] w (DoneB L w0 r b sd n st.slab.bud R) := by
  have hG := H.shG
  obtain ⟨X, hX⟩ : ∃ X, updErr st o.iv = X := ⟨_, rfl⟩
  obtain ⟨T, hT⟩ : ∃ T, updH st o.iv = T := ⟨_, rfl⟩
  have HB : Hid (T.slab.bud = st.slab.bud) := by show T.slab.bud = _; rw [← hT]; exact upd_bud st o.iv
  have HX := hide hX
  have HT := hide hT
  have HGd := hide hG
  replace H := (H.box (.cells (opC o) 38)).swap
  have k0 : (w.alloc (.cells (opC o) 38)).cell? ⟨w.heap.size, 0, none⟩ = some (.int .i64 3) := by rw [← hk]; exact op_box H.boxAt2 0 _ rfl
  replace H := hide H.drew
  clear hX hT hG hk
  go_enter Tryz.func12, Tryz.ntmps12
  go_upto_region 13 with fail
  go_region_held (HasO w.heap.size o.iv o.a o.c) (exact H.out.opS.1) (first
    | (go_at_call 26; refine (bUpdate L H.out (by omega) o.iv o.a o.c hvi hbs _ _ HX.out HT.out).mono ?_; rintro e w2 ⟨rfl, own2, H2⟩; replace H := hide H2; clear H2)
    | (go_at_call 40; refine (rupdate_any H.out HGd.out (by omega) o.iv hvi o.a o.c (fun W hB => hbs.on (Bt H.out.law.below hB)) _ _ HX.out HT.out).mono ?_; rintro e w3 ⟨rfl, P3, H3⟩; replace H := hide H3; clear H3))
  all_goals
    go_wp2
    go_ret
    exact ⟨by simp, _, _, _, _, Nat.le_succ _, HB.out, H.out.swap.less⟩
set_option maxRecDepth 100000 in
set_option maxHeartbeats 8000000 in
theorem do_remove (L : ShardLib Sh) (H : RefAt w0 w r sd P st ((shQ L b own sd n st).and R)) (hn : n ≤ 800) (o : Op11) (hvi : o.iv.ok) (hk : o.kd = 4) :
    Calls Tryz.prog 12 #[.pointer (some ⟨b, 0, none⟩), .pointer (some ⟨r, 0, none⟩), .agg (opC o)] w (DoneB L w0 r b sd n st.slab.bud R) := by
  have hG := H.shG
  have hks := hvi.key
  obtain ⟨X, hX⟩ : ∃ X, hasH st o.iv.key = X := ⟨_, rfl⟩
  obtain ⟨T, hT⟩ : ∃ T, removeH st o.iv.key = T := ⟨_, rfl⟩
  have HB : Hid (T.slab.bud = st.slab.bud) := by show T.slab.bud = _; rw [← hT]; exact remove_bud st o.iv.key
  have HX := hide hX
  have HT := hide hT
  have HGd := hide hG
  replace H := (H.box (.cells (opC o) 38)).swap
  have k0 : (w.alloc (.cells (opC o) 38)).cell? ⟨w.heap.size, 0, none⟩ = some (.int .i64 4) := by rw [← hk]; exact op_box H.boxAt2 0 _ rfl
  replace H := hide H.drew
  clear hX hT hG hk
  go_enter Tryz.func12, Tryz.ntmps12
  go_upto_region 15 with fail
  go_region_held (fun w' => w'.cell? ⟨w.heap.size, 1, none⟩ = some (.string o.iv.key)) (exact H.out.opS.1.1) (first
    | (go_at_call 27; refine (bRemove L H.out (by omega) o.iv.key hks _ HX.out _ HT.out).mono ?_; rintro e w2 ⟨rfl, own2, H2⟩; replace H := hide H2; clear H2)
    | (go_at_call 41; refine (rremove_any H.out HGd.out (by omega) o.iv.key _ HX.out _ HT.out).mono ?_; rintro e w3 ⟨rfl, P3, H3⟩; replace H := hide H3; clear H3))
  all_goals
    go_wp2
    go_ret
    exact ⟨by simp, _, _, _, _, Nat.le_succ _, HB.out, H.out.swap.less⟩
set_option maxRecDepth 100000 in
set_option maxHeartbeats 8000000 in
theorem do_use (L : ShardLib Sh) (H : RefAt w0 w r sd P st ((shQ L b own sd n st).and R)) (hn : n ≤ 800) (o : Op11) (hvi : o.iv.ok) (hk : o.kd = 2) :
    Calls Tryz.prog 12 #[.pointer (some ⟨b, 0, none⟩), .pointer (some ⟨r, 0, none⟩), .agg (opC o)] w (DoneB L w0 r b sd n st.slab.bud R) := by
  have hG := H.shG
  have hks := hvi.key
  obtain ⟨T, hT⟩ : ∃ T, useH sd st o.iv.key = T := ⟨_, rfl⟩
  have HB : Hid (T.slab.bud = st.slab.bud) := by show T.slab.bud = _; rw [← hT]; rfl
  have HT := hide hT
  have HGd := hide hG
  replace H := (H.box (.cells (opC o) 38)).swap
  have k0 : (w.alloc (.cells (opC o) 38)).cell? ⟨w.heap.size, 0, none⟩ = some (.int .i64 2) := by rw [← hk]; exact op_box H.boxAt2 0 _ rfl
  have k1 : (w.alloc (.cells (opC o) 38)).cell? ⟨w.heap.size, 1, none⟩ = some (.string o.iv.key) := op_box H.boxAt2 1 _ rfl
  replace H := hide H
  clear hT hG hk
  go_enter Tryz.func12, Tryz.ntmps12
  go_wp2_with (first
    | (go_at_call 21; refine (bUse L H.out (by omega) o.iv.key hks _ HT.out).mono ?_; rintro e w2 ⟨⟨v2, rfl⟩, own2, H2⟩; replace H := hide H2; clear H2 k1; have k1 : w2.cell? ⟨w.heap.size, 1, none⟩ = some (.string o.iv.key) := op_box H.out.boxAt2 1 _ rfl)
    | (go_at_call 39; refine (ruse_any H.out HGd.out (by omega) o.iv.key hks _ HT.out).mono ?_; rintro e w3 ⟨⟨v3, rfl⟩, P3, H3⟩; replace H := hide H3; clear H3 k1))
  go_ret
  exact ⟨rfl, _, _, _, _, Nat.le_succ _, HB.out, H.out.swap.less⟩
set_option maxRecDepth 100000 in
set_option maxHeartbeats 8000000 in
theorem do_drops (L : ShardLib Sh) (H : RefAt w0 w r sd P st ((shQ L b own sd n st).and R)) (hn : n ≤ 800) (o : Op11) (hk : o.kd = 5) :
    Calls Tryz.prog 12 #[.pointer (some ⟨b, 0, none⟩), .pointer (some ⟨r, 0, none⟩), .agg (opC o)] w (DoneB L w0 r b sd n st.slab.bud R) := by
  have hG := H.shG
  obtain ⟨l, hl⟩ : ∃ l, st.drops = l := ⟨_, rfl⟩
  have hl9 : l.length ≤ 140737488351232 := by rw [← hl]; have := hG.len.2.1; omega
  have HL := hide hl
  replace H := (H.box (.cells (opC o) 38)).swap
  have k0 : (w.alloc (.cells (opC o) 38)).cell? ⟨w.heap.size, 0, none⟩ = some (.int .i64 5) := by rw [← hk]; exact op_box H.boxAt2 0 _ rfl
  replace H := hide H
  clear hl hG hk
  go_enter Tryz.func12, Tryz.ntmps12
  go_wp2_with (first
    | (go_at_call 19; refine (bDrops L H.out _ HL.out).mono ?_; rintro e w2 ⟨v, own2, rfl, H2⟩; replace H := hide H2; clear H2)
    | (go_at_call 20; refine (rdrops_any H.out _ HL.out).mono ?_; rintro e w3 ⟨P3, rfl, H3⟩; replace H := hide H3; clear H3; have hv1 := hide (holds_own (show _ from H.out.law.q.2.1.2.1.1)); have hv2 := hide (holds_own (show _ from H.out.law.q.2.1.1)))
    | (go_at_call 18; refine (same_eq _ _ _ l hl9 hv1.out hv2.out).mono ?_; rintro e w4 ⟨rfl, hg⟩; replace H := hide (H.out.step hg); clear hg))
  go_ret
  exact ⟨rfl, _, _, _, quietH st, Nat.le_succ _, rfl, H.out.less.less.swap.less⟩
set_option maxRecDepth 100000 in
set_option maxHeartbeats 8000000 in
theorem do_other (L : ShardLib Sh) (H : RefAt w0 w r sd P st ((shQ L b own sd n st).and R)) (o : Op11) (hk : o.kd ≠ 0 ∧ o.kd ≠ 1 ∧ o.kd ≠ 2 ∧ o.kd ≠ 3 ∧ o.kd ≠ 4 ∧ o.kd ≠ 5) :
    Calls Tryz.prog 12 #[.pointer (some ⟨b, 0, none⟩), .pointer (some ⟨r, 0, none⟩), .agg (opC o)] w (DoneB L w0 r b sd n st.slab.bud R) := by
  obtain ⟨h0, h1, h2, h3, h4, h5⟩ := hk
  have b0 := beq_eq_false_iff_ne.2 h0
  have b1 := beq_eq_false_iff_ne.2 h1
  have b2 := beq_eq_false_iff_ne.2 h2
  have b3 := beq_eq_false_iff_ne.2 h3
  have b4 := beq_eq_false_iff_ne.2 h4
  have b5 := beq_eq_false_iff_ne.2 h5
  replace H := (H.box (.cells (opC o) 38)).swap
  have k0 : (w.alloc (.cells (opC o) 38)).cell? ⟨w.heap.size, 0, none⟩ = some (.int .i64 o.kd) := op_box H.boxAt2 0 _ rfl
  replace H := hide H
  clear h0 h1 h2 h3 h4 h5
  go_enter Tryz.func12, Tryz.ntmps12
  go_wp2
  go_ret
  exact ⟨rfl, _, _, _, _, Nat.le_succ _, rfl, H.out.swap.less⟩
end
end Go.Proofs.YtckjjfkfapfdaaaGreat

namespace Go.Proofs.YtckjjfkfapfdaaaGreat
open Go.RowKit Go.Shelf
variable {Sh : World → Nat → (Nat → Prop) → Nat → Nat → Hs → Prop}

def zeroIv : Iv := ⟨⟨#[]⟩, [], 0, 0, 0, 0, 0, false, false, false⟩
theorem bs_none (w : World) : Bs w none 0 0 (ints []) := .inl ⟨rfl, rfl, fun _ => rfl⟩
section
variable {w0 w : World} {r sd n b : Nat} {own : Nat → Prop} {P : Rp} {s st : Hs} {R A : Part}
theorem bLook_none (L : ShardLib Sh) (H : RefAt w0 w r sd P s ((shQ L b own sd n st).and R)) (hn : n ≤ 900) (k : ByteArray) (hk : k.size ≤ 300) (en : En) (hen : en.ok) (t : Hs) (ht : lookH st k en = t) (hy : livingH st k en = none) :
    Calls Tryz.prog 25 #[.pointer (some ⟨b, 0, none⟩), .string k, .agg (enC en)] w fun e w' => e = .returned (.tuple #[.agg (itC zeroIt), .bool false]) ∧ ∃ own', RefAt w0 w' r sd P s ((shQ L b own' sd n t).and R) := by
  refine (bLook L H hn k hk en hen t ht).mono ?_
  rintro e w' (⟨h1, h2, own', H2⟩ | ⟨y, a, c, h1, _⟩)
  · exact ⟨h2, own', H2.less⟩
  · rw [h1] at hy
    cases hy
theorem bLook_some (L : ShardLib Sh) (H : RefAt w0 w r sd P s ((shQ L b own sd n st).and R)) (hn : n ≤ 900) (k : ByteArray) (hk : k.size ≤ 300) (en : En) (hen : en.ok) (t : Hs) (ht : lookH st k en = t) (y : Ent) (hy : livingH st k en = some y) :
    Calls Tryz.prog 25 #[.pointer (some ⟨b, 0, none⟩), .string k, .agg (enC en)] w fun e w' => ∃ a c own', e = .returned (.tuple #[.agg (itC (itOf y.1 a c)), .bool true]) ∧ RefAt w0 w' r sd P s ((valP 0 a c y.1.val).and ((shQ L b own' sd n t).and R)) := by
  refine (bLook L H hn k hk en hen t ht).mono ?_
  rintro e w' (⟨h1, _⟩ | ⟨y', a, c, h1, h2, own', H2⟩)
  · rw [h1] at hy
    cases hy
  · rw [h1] at hy
    cases hy
    exact ⟨a, c, own', h2, H2⟩
theorem rLook_none (H : RefAt w0 w r sd P st R) (hg : GoodH n st) (hn : n ≤ 900) (key : ByteArray) (en : En) (t : Hs) (ht : lookH st key en = t) (hy : livingH st key en = none) :
    Calls Tryz.prog 38 #[.pointer (some ⟨r, 0, none⟩), .string key, .agg (enC en)] w fun e w' => e = .returned (.tuple #[.agg (itC zeroIt), .bool false]) ∧ ∃ P', RefAt w0 w' r sd P' t R := by
  refine (rlook_any H hg hn key en t ht).mono ?_
  rintro e w' ⟨P', H2, ⟨h1, h2⟩ | ⟨x, _, h1, _⟩⟩
  · exact ⟨h2, P', H2⟩
  · rw [h1] at hy
    cases hy
theorem rLook_some (H : RefAt w0 w r sd P st R) (hg : GoodH n st) (hn : n ≤ 900) (key : ByteArray) (en : En) (t : Hs) (ht : lookH st key en = t) (y : Ent) (hy : livingH st key en = some y) :
    Calls Tryz.prog 38 #[.pointer (some ⟨r, 0, none⟩), .string key, .agg (enC en)] w fun e w' => ∃ P' a c, e = .returned (.tuple #[.agg (itC (itOf y.1 a c)), .bool true]) ∧ RefAt w0 w' r sd P' t R ∧ ∀ W, (talesP (P'.es.map Re.t)).q W → Bs W a y.1.val.length c (ints y.1.val) := by
  refine (rlook_any H hg hn key en t ht).mono ?_
  rintro e w' ⟨P', H2, ⟨h1, _⟩ | ⟨x, hx, h1, h2⟩⟩
  · rw [h1] at hy
    cases hy
  · rw [h1] at hy
    cases hy
    exact ⟨P', x.t.a, x.t.c, h2, H2, fun W hW => ValAt.bs (hW x.t (List.mem_map.2 ⟨x, hx, rfl⟩))⟩
set_option maxRecDepth 100000 in
set_option maxHeartbeats 8000000 in
theorem do_look (L : ShardLib Sh) (H : RefAt w0 w r sd P st ((shQ L b own sd n st).and R)) (hn : n ≤ 800) (o : Op11) (hvi : o.iv.ok) (hen : o.en.ok) (hk : o.kd = 1) :
    Calls Tryz.prog 12 #[.pointer (some ⟨b, 0, none⟩), .pointer (some ⟨r, 0, none⟩), .agg (opC o)] w (DoneB L w0 r b sd n st.slab.bud R) := by
  have hG := H.shG
  have hks := hvi.key
  obtain ⟨T, hT⟩ : ∃ T, lookH st o.iv.key o.en = T := ⟨_, rfl⟩
  have HB : Hid (T.slab.bud = st.slab.bud) := by show T.slab.bud = _; rw [← hT]; exact look_drops.2.1
  have HT := hide hT
  have HGd := hide hG
  replace H := (H.box (.cells (opC o) 38)).swap
  have k0 : (w.alloc (.cells (opC o) 38)).cell? ⟨w.heap.size, 0, none⟩ = some (.int .i64 1) := by rw [← hk]; exact op_box H.boxAt2 0 _ rfl
  have k1 : (w.alloc (.cells (opC o) 38)).cell? ⟨w.heap.size, 1, none⟩ = some (.string o.iv.key) := op_box H.boxAt2 1 _ rfl
  have r1 := op_env H.boxAt2
  replace H := hide H
  cases hL : livingH st o.iv.key o.en with
  | none =>
    have HL := hide hL
    clear hT hG hk hL
    go_enter Tryz.func12, Tryz.ntmps12
    go_wp2_with (first
      | (refine wpList_load_mid rfl 36 _ rfl w.heap.size 11 rfl (enC o.en).toList _ r1 Tryz.underlying36 rfl (by rw [env_size o.en, Array.length_toList]) ?_)
      | (go_at_call 25; refine (bLook_none L H.out (by omega) o.iv.key hks o.en hen _ HT.out HL.out).mono ?_; rintro e w2 ⟨rfl, own2, H2⟩; replace H := hide (H2.box (.cells (itC zeroIt) 34)); clear H2 k1 r1; have k1 : (w2.alloc (.cells (itC zeroIt) 34)).cell? ⟨w.heap.size, 1, none⟩ = some (.string o.iv.key) := op_box H.out.less.boxAt2 1 _ rfl; have r1 := op_env H.out.less.boxAt2)
      | (refine wpList_store_row rfl 34 _ _ rfl w2.heap.size (itC zeroIt) rfl rfl _ (itC zeroIt) (World.alloc_heap_new w2 _) (item_size _) rfl (item_one _) ?_; rw [setRow_alloc])
      | (go_at_call 38; refine (rLook_none H.out HGd.out (by omega) o.iv.key o.en _ HT.out HL.out).mono ?_; rintro e w4 ⟨rfl, P4, H4⟩; replace H := hide (H4.box (.cells (itC zeroIt) 34)); clear H4 k1 r1)
      | (refine wpList_store_row rfl 34 _ _ rfl w4.heap.size (itC zeroIt) rfl rfl _ (itC zeroIt) (World.alloc_heap_new w4 _) (item_size _) rfl (item_one _) ?_; rw [setRow_alloc])
      | (refine wpList_load_row rfl 34 _ rfl w2.heap.size rfl _ (itC zeroIt) _ _ H.out.boxAt2 Tryz.underlying34 rfl (item_size _) ?_)
      | (refine wpList_load_row rfl 34 _ rfl w4.heap.size rfl _ (itC zeroIt) _ _ H.out.boxAt Tryz.underlying34 rfl (item_size _) ?_)
      | (go_at_call 23; refine (sameIt_any zeroIv zeroIv none none 0 0 _ (bs_none _) (bs_none _)).mono ?_; rintro e w6 ⟨q, rfl, hq, hg⟩; obtain rfl : q = true := hq rfl; replace H := hide (H.out.step hg); clear hg hq))
    go_ret
    exact ⟨rfl, _, _, _, _, Nat.le_succ _, HB.out, H.out.less.less.swap.less⟩
  | some y =>
    have HL := hide hL
    clear hT hG hk hL
    go_enter Tryz.func12, Tryz.ntmps12
    go_wp2_with (first
      | (refine wpList_load_mid rfl 36 _ rfl w.heap.size 11 rfl (enC o.en).toList _ r1 Tryz.underlying36 rfl (by rw [env_size o.en, Array.length_toList]) ?_)
      | (go_at_call 25; refine (bLook_some L H.out (by omega) o.iv.key hks o.en hen _ HT.out y HL.out).mono ?_; rintro e w2 ⟨a2, c2, own2, rfl, H2⟩; replace H := hide (H2.box (.cells (itC (itOf y.1 a2 c2)) 34)); clear H2 k1 r1; have k1 : (w2.alloc (.cells (itC (itOf y.1 a2 c2)) 34)).cell? ⟨w.heap.size, 1, none⟩ = some (.string o.iv.key) := op_box H.out.less.less.boxAt2 1 _ rfl; have r1 := op_env H.out.less.less.boxAt2)
      | (refine wpList_store_row rfl 34 _ _ rfl w2.heap.size (itC (itOf y.1 a2 c2)) rfl rfl _ (itC zeroIt) (World.alloc_heap_new w2 _) (item_size _) rfl (item_one _) ?_; rw [setRow_alloc])
      | (go_at_call 38; refine (rLook_some H.out HGd.out (by omega) o.iv.key o.en _ HT.out y HL.out).mono ?_; rintro e w4 ⟨P4, a4, c4, rfl, H4, hB4⟩; replace H := hide (H4.box (.cells (itC (itOf y.1 a4 c4)) 34)); have B1 := hide (ValAt.bs (show ValAt 0 _ a2 c2 y.1.val from H.out.law.q.2.1.2.1.2.1.1)); have B2 := hide (hB4 _ (H.out.law.at (A := talesP (P4.es.map Re.t)) 2 rfl)); clear H4 k1 r1 hB4)
      | (refine wpList_store_row rfl 34 _ _ rfl w4.heap.size (itC (itOf y.1 a4 c4)) rfl rfl _ (itC zeroIt) (World.alloc_heap_new w4 _) (item_size _) rfl (item_one _) ?_; rw [setRow_alloc])
      | (refine wpList_load_row rfl 34 _ rfl w2.heap.size rfl _ (itC (itOf y.1 a2 c2)) _ _ H.out.boxAt2 Tryz.underlying34 rfl (item_size _) ?_)
      | (refine wpList_load_row rfl 34 _ rfl w4.heap.size rfl _ (itC (itOf y.1 a4 c4)) _ _ H.out.boxAt Tryz.underlying34 rfl (item_size _) ?_)
      | (go_at_call 23; refine (sameIt_any y.1 y.1 a2 a4 c2 c4 _ B1.out B2.out).mono ?_; rintro e w6 ⟨q, rfl, hq, hg⟩; obtain rfl : q = true := hq rfl; replace H := hide (H.out.step hg); clear hg hq))
    go_ret
    exact ⟨rfl, _, _, _, _, Nat.le_succ _, HB.out, H.out.less.less.less.swap.less⟩
theorem do_any (L : ShardLib Sh) (H : RefAt w0 w r sd P st ((shQ L b own sd n st).and R)) (hn : n ≤ 800) (hbud : I64 st.slab.bud) (o : Op11) (hvi : o.iv.ok) (hen : o.en.ok) (hbs : Bs w0 o.a o.iv.val.length o.c (ints o.iv.val)) :
    Calls Tryz.prog 12 #[.pointer (some ⟨b, 0, none⟩), .pointer (some ⟨r, 0, none⟩), .agg (opC o)] w (DoneB L w0 r b sd n st.slab.bud R) := by
  by_cases h0 : o.kd = 0
  · exact do_store L H hn hbud o hvi hen hbs h0
  by_cases h1 : o.kd = 1
  · exact do_look L H hn o hvi hen h1
  by_cases h2 : o.kd = 2
  · exact do_use L H hn o hvi h2
  by_cases h3 : o.kd = 3
  · exact do_update L H hn o hvi hbs h3
  by_cases h4 : o.kd = 4
  · exact do_remove L H hn o hvi h4
  by_cases h5 : o.kd = 5
  · exact do_drops L H hn o h5
  exact do_other L H o ⟨h0, h1, h2, h3, h4, h5⟩
end
end Go.Proofs.YtckjjfkfapfdaaaGreat
