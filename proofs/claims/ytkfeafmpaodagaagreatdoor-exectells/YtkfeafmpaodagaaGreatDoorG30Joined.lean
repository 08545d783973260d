/- The iterator that All of package shard answers: copies of items that lie in a row. Conditions: at most 900 items. All of package shard: its items in a row of their own, told one by one. Conditions: the contracts of the packages beneath it; at most 900 stores. -/
import Derived.Test.YtkfeafmpaodagaaGreatDoorG29Joined
import Derived.Test.YtkfeafmpaodagaaGreatDoorG01Joined
import Derived.Maps.OwnIn
import Derived.Laws.MakeOwn
namespace Go.Proofs.YtkfeafmpaodagaaGreatDoor
open Go.RowKit Go.Shelf
attribute [local go_sem] Oper.semAt_some

/-- Items as cells. -/
def itsV (l : List It) : List Value := l.flatMap fun i => (itC i).toList
theorem itsV_len (l : List It) : (itsV l).length = l.length * 10 := by
  unfold itsV
  rw [List.length_flatMap]
  induction l with
  | nil => rfl
  | cons x l ih =>
    rw [List.map_cons, List.sum_cons, ih, List.length_cons]
    have : (itC x).toList.length = 10 := rfl
    omega
theorem itsV_app (l : List It) (x : It) : itsV (l ++ [x]) = itsV l ++ (itC x).toList := by simp [itsV]
theorem itsV_get {x : It} : ∀ {l : List It} {k j : Nat}, l[k]? = some x → j < 10 → (itsV l)[k * 10 + j]? = (itC x).toList[j]?
  | [], k, j, h, _ => by simp at h
  | y :: l, 0, j, h, hj => by
    simp at h
    subst h
    rw [Nat.zero_mul, Nat.zero_add]
    show ((itC y).toList ++ itsV l)[j]? = _
    exact List.getElem?_append_left hj
  | y :: l, k + 1, j, h, hj => by
    have h' : l[k]? = some x := by simpa using h
    show ((itC y).toList ++ itsV l)[(k + 1) * 10 + j]? = _
    rw [List.getElem?_append_right (by show 10 ≤ _; omega)]
    have e : (k + 1) * 10 + j - (itC y).toList.length = k * 10 + j := by
      have : (itC y).toList.length = 10 := rfl
      omega
    rw [e]
    exact itsV_get h' hj
theorem it_row {w : World} {n0 n cap g k : Nat} {l : List It} {x : It} (h : w.ownsRow n0 75 10 (.slice (some ⟨g, 0, none⟩) n cap) n (itsV l)) (hn : l.length = n) (hk : l[k]? = some x) : ∀ (j : Nat) (v : Value), (itC x).toList[j]? = some v → w.cell? ⟨g, k * 10 + j, none⟩ = some v := by
  intro j v hv
  have hj : j < 10 := (List.getElem?_eq_some_iff.1 hv).1
  have hkl := (List.getElem?_eq_some_iff.1 hk).1
  rw [h.cellAt (k * 10 + j) (by omega), itsV_get hk hj, hv]
/-- Blocks that lie as they lay. -/
def KpS (own : Nat → Prop) (w V : World) : Prop := ∀ k, own k → k < V.heap.size ∧ V.heap[k]? = w.heap[k]?
theorem KpS.step {own fp : Nat → Prop} {w V V' : World} (h : KpS own w V) (hg : Gr fp V V') (hf : ∀ k, fp k → k < V.heap.size ∧ ¬ own k) : KpS own w V' := fun k hk => ⟨Nat.lt_of_lt_of_le (h k hk).1 hg.size, (hg.block k (h k hk).1 fun hfk => (hf k hfk).2 hk).trans (h k hk).2⟩
theorem KpS.grown {own : Nat → Prop} {w V V' : World} (h : KpS own w V) (hg : V.grownBy V' none) : KpS own w V' := fun k hk => ⟨Nat.lt_of_lt_of_le (h k hk).1 hg.size, (hg.block k (h k hk).1 (by simp)).trans (h k hk).2⟩
/-- What the iterator reads. -/
def itsOwn (bv : Nat) (v : Value) (E : List Eb) (k : Nat) : Prop := k = bv ∨ v.ownBlock = some k ∨ (valsP E).own k
theorem boxS_cell {w : World} {k : Nat} {t : TypeId} {v : Value} (h : w.heap[k]? = some (.cells #[v] t)) : w.cell? ⟨k, 0, none⟩ = some v := by
  simp [World.cell?, h]
theorem lasts_grown {α : Type} {B : Nat} {J : List α → World → (Nat → Prop) → Prop} (hJ : Lasts B J) {own : Nat → Prop} (hfp : ∀ pre V fp, J pre V fp → ∀ k, fp k → k < V.heap.size ∧ ¬ own k) {pre : List α} {V V' : World} {fp : Nat → Prop} (h : J pre V fp) (hg : V.grownBy V' none) : J pre V' fp :=
  hJ pre V V' fp h ⟨hg.1, hg.2, hg.3, hg.4, fun k hk _ => hg.5 k hk (by simp)⟩ fun k hk => hg.5 k (hfp _ _ _ h k hk).1 (by simp)
set_option maxRecDepth 100000 in
set_option maxHeartbeats 8000000 in
theorem told_items (m : Nat) (hm : 1 ≤ m) {w : World} {bv n0 : Nat} {v : Value} {E : List Eb} (hE : E.length ≤ 901) (hbv : w.heap[bv]? = some (.cells #[v] 149)) (hr : w.ownsRow n0 75 10 v E.length (itsV (E.map Eb.it))) (hvs : (valsP E).q w) (hok : ∀ y ∈ E, y.iv.val.length ≤ 3000) :
    SeqGive Fence.wide m Tryz.prog 83 #[.pointer (some ⟨bv, 0, none⟩)] itEnc giveP (itsOwn bv v E) (fun xs => xs.map Told.iv = E.map Eb.iv) (fun pre => pre.map Told.iv <+: E.map Eb.iv) w := by
  intro l J Jx fp0 W hW hJ hJx hfp hY h0
  have hbl : bv < w.heap.size := (Array.getElem?_eq_some_iff.1 hbv).1
  have K0 : KpS (itsOwn bv v E) w W := fun k hk => by
    have hk' : k < w.heap.size := by
      rcases hk with rfl | h | ⟨y, hy, h⟩
      · exact hbl
      · exact (own_at hr h).2.1
      · exact (own_at (hvs y hy) h).2.1
    exact ⟨Nat.lt_of_lt_of_le hk' hW.size, hW.block k hk'⟩
  have r_on : ∀ V, KpS (itsOwn bv v E) w V → V.ownsRow n0 75 10 v E.length (itsV (E.map Eb.it)) := fun V hV => own_same hr fun k hk => (hV k (.inr (.inl hk))).2
  have v_on : ∀ V, KpS (itsOwn bv v E) w V → (valsP E).q V := fun V hV => (valsP E).on w V hvs fun k hk => (hV k (.inr (.inr hk))).2
  obtain ⟨a, cap, hva⟩ := own_shape hr
  subst hva
  have c0 : W.cell? ⟨bv, 0, none⟩ = some (.slice a E.length cap) := boxS_cell ((K0 bv (.inl rfl)).2.trans hbv)
  obtain ⟨len, hlen⟩ : ∃ m, E.length = m := ⟨_, rfl⟩
  rw [hlen] at c0 hE K0 r_on v_on hfp
  refine callsIn_of_wp Tryz.func83 rfl trivial ?_ rfl
  simp only [Tryz.ntmps83, List.size_toArray, List.length_cons, List.length_nil, Nat.reduceAdd, Nat.reduceSub, Array.replicate_succ, Array.replicate_zero, List.push_toArray, List.append_toArray, List.nil_append, List.cons_append]
  gi_wp2
  gi_loopw [4, 7] (fun _ i wr => ∃ (k : Nat) (pre : List Told) (fp : Nat → Prop), k ≤ len ∧ i = .int .i64 k ∧ KpS (itsOwn bv (.slice a len cap) E) w wr ∧ J pre wr fp ∧ pre.map Told.iv = (E.take k).map Eb.iv ∧ W.heap.size ≤ wr.heap.size) (fun _ i _ => len - (intOf i).toNat)
  case atStart => exact ⟨0, [], fp0, Nat.zero_le _, rfl, K0, h0, rfl, Nat.le_refl _⟩
  case round =>
    clear h0 K0 c0
    obtain ⟨k, pre, fp, hk, rfl, K2, h2, hpre, hsz⟩ := hrel
    by_cases hlt : k < len
    · have hki : (k : Int) < (len : Int) := by omega
      have hkl : k < E.length := by omega
      obtain ⟨y, hy⟩ : ∃ y, E[k]? = some y := ⟨_, List.getElem?_eq_getElem hkl⟩
      have hym := List.mem_of_getElem? hy
      have hyl := hok y hym
      obtain ⟨g, cap', e⟩ := own_form (r_on _ K2) (by omega)
      cases e
      have row := it_row (x := y.it) (r_on _ K2) (by rw [List.length_map, hlen]) (by rw [List.getElem?_map, hy]; rfl)
      have q0 := row 0 _ rfl
      rw [Nat.add_zero] at q0
      have q1 := row 1 _ rfl
      have q2 := row 2 _ rfl
      have q3 := row 3 _ rfl
      have q4 := row 4 _ rfl
      have q5 := row 5 _ rfl
      have q6 := row 6 _ rfl
      have q7 := row 7 _ rfl
      have q8 := row 8 _ rfl
      have q9 := row 9 _ rfl
      clear row
      have e1 : E.take (k + 1) = E.take k ++ [y] := by rw [List.take_add_one, hy]; rfl
      have HP : Hid (∀ x : Told, x.iv = y.iv → (pre ++ [x]).map Told.iv = (E.take (k + 1)).map Eb.iv) := fun x hx => by
        rw [List.map_append, hpre, e1, List.map_append, List.map_singleton, List.map_singleton, hx]
      have HX : Hid ((E.take (k + 1)).map Eb.iv <+: E.map Eb.iv) := (List.take_prefix _ _).map _
      have bb := (v_on _ K2 y hym).bs.alloc (.cells (itC y.it) 75)
      have hga := World.grownBy_alloc wr (.cells (itC y.it) 75) none
      clear hpre e1 hy
      gi_wp2_with (refine ⟨trivial, ?_⟩; gi_at_call 54; refine (callsIn_wide.2 (own_any y.iv (Nat.le_trans hyl (by decide)) bb)).mono ?_; rintro e w4 ⟨a4, c4, rfl, hv, hg⟩; have hgr := gr_trans hga hg; have h3 := lasts_grown hJ hfp h2 hgr; have K3 := K2.grown hgr; have hfp3 := hfp _ _ _ h3; obtain ⟨fn, tmps, assign, body, hyy, hR⟩ := hY pre ⟨y.iv, a4, c4⟩ w4 fp h3 (by rw [HP.out _ rfl]; exact HX.out) (ValAt.base hv (Nat.zero_le _)) (fun k' hk' => ⟨Nat.le_trans hsz (Nat.le_trans hga.size (own_at hv hk').1), (own_at hv hk').2.1, fun hf => Nat.not_lt_of_le (Nat.le_trans hga.size (own_at hv hk').1) (hfp _ _ _ h2 k' hf).1⟩); unfold itEnc Told.it at hyy; dsimp only at hyy; clear hv hg bb)
      refine hR.mono ?_
      rintro e W3 ⟨fp4, g4, -, ⟨rfl, h4⟩ | ⟨rfl, h4⟩⟩
      · have K4 := K3.step g4 hfp3
        have hs4 := Nat.le_trans hsz (Nat.le_trans hgr.size g4.size)
        gi_wp2
        go_roundw
        case rel => exact ⟨k + 1, _, fp4, by omega, by go_num, K4, h4, HP.out _ rfl, hs4⟩
        case measure => simp [intOf]; omega
      · gi_wp2
        refine bodyPost_ret (results_none rfl _ _ _) rfl ?_
        exact ⟨⟨_, rfl⟩, .inr ⟨_, fp4, by rw [HP.out _ rfl]; exact HX.out, h4⟩⟩
    · obtain rfl : k = len := by omega
      have e1 : E.take k = E := List.take_of_length_le (by omega)
      rw [e1] at hpre
      gi_wp2
      go_end0
      exact ⟨⟨_, rfl⟩, .inl ⟨_, fp, hpre, h2⟩⟩
end Go.Proofs.YtkfeafmpaodagaaGreatDoor

namespace Go.Proofs.YtkfeafmpaodagaaGreatDoor
open Go.RowKit Go.Shelf
attribute [local go_sem] Oper.semAt_some
attribute [-go_sem] Builtin.append_
variable {Sl : World → Nat → (Nat → Prop) → Sb → Prop} {Ls : World → Nat → (Nat → Prop) → Sr → Prop} {Jd : World → Nat → List Nat → Nat → Js → Prop} {Tb : World → Nat → (Nat → Prop) → Ts → Prop}

theorem info_item : (Tryz.prog.info? 75).map (fun i => (i.zero, i.size, i.bytes)) = some (some (.agg (itC zeroIt)), 10, 88) := by kernel_rfl
theorem row_new (w : World) (cs : Array Value) (t : TypeId) : ∀ j u, cs.toList[j]? = some u → (w.alloc (.cells cs t)).cell? ((⟨w.heap.size, 0, none⟩ : Addr).add j) = some u := by
  intro j u h
  have h1 := heap_alloc_new w (.cells cs t)
  have e : (⟨w.heap.size, 0, none⟩ : Addr).add j = ⟨w.heap.size, j, none⟩ := by simp [Addr.add]; omega
  rw [e]
  unfold World.cell?
  simp only [h1]
  simpa using h
theorem it_one (i : It) : ∀ u ∈ (itC i).toList, u.oneCell' = true := by
  have h := item_one i
  rw [Array.all_eq_true_iff_forall_mem] at h
  exact fun u hu => h u (Array.mem_toList_iff.1 hu)
theorem ent_drew {w : World} {y : Eb} (h : w.heap[y.blk]? = some (.cells y.cells 130 (0, 0))) :
    w.drew.cell? ⟨y.blk, 0, none⟩ = some (.string y.iv.key) ∧ w.drew.cell? ⟨y.blk, 1, none⟩ = some (.slice y.a y.iv.val.length y.c) ∧ w.drew.cell? ⟨y.blk, 2, none⟩ = some (.int .u32 y.iv.fl) ∧ w.drew.cell? ⟨y.blk, 3, none⟩ = some (.int .i64 y.iv.exp) ∧
    w.drew.cell? ⟨y.blk, 4, none⟩ = some (.int .u64 y.iv.cas) ∧ w.drew.cell? ⟨y.blk, 5, none⟩ = some (.int .i64 y.iv.sec) ∧ w.drew.cell? ⟨y.blk, 6, none⟩ = some (.int .u64 y.iv.seq) ∧ w.drew.cell? ⟨y.blk, 7, none⟩ = some (.bool y.iv.st) ∧
    w.drew.cell? ⟨y.blk, 8, none⟩ = some (.bool y.iv.won) ∧ w.drew.cell? ⟨y.blk, 9, none⟩ = some (.bool y.iv.seen) := by
  have at_ : ∀ (j : Nat) (v : Value), y.cells[j]? = some v → w.drew.cell? ⟨y.blk, j, none⟩ = some v := fun j v hv => by
    show w.cell? _ = _
    unfold World.cell?
    rw [h]
    exact hv
  exact ⟨at_ 0 _ rfl, at_ 1 _ rfl, at_ 2 _ rfl, at_ 3 _ rfl, at_ 4 _ rfl, at_ 5 _ rfl, at_ 6 _ rfl, at_ 7 _ rfl, at_ 8 _ rfl, at_ 9 _ rfl⟩
section
variable {L : Libs Sl Ls Jd Tb} {F : Nat → Prop} {w0 w : World} {b sd n : Nat} {st : Hs} {x : Sx} {R : Part}
/-- The first items in a row, in its box. -/
abbrev someP (n0 bi : Nat) (v : Value) (E : List Eb) (k : Nat) : Part := (rowP n0 75 10 v k (itsV ((E.take k).map Eb.it))).and ((boxP bi (.cells #[v] 149)).and Part.emp)
/-- Where All's loop stands. -/
def AllI (w : World) (sz bi : Nat) (own2 : Nat → Prop) (E : List Eb) (pre : List Kv) (W : World) (fp : Nat → Prop) : Prop := ∃ v, fp = (someP w.heap.size bi v E pre.length).own ∧ Law w W (someP w.heap.size bi v E pre.length) ∧ (∀ k, own2 k → ¬ fp k) ∧ sz ≤ W.heap.size
theorem AllI.lasts {w : World} {sz bi B : Nat} {own2 : Nat → Prop} {E : List Eb} (hB : w.heap.size ≤ B) : Lasts B (AllI w sz bi own2 E) := by
  rintro pre V V' fp ⟨v, rfl, H, h2, h3⟩ hg hs
  exact ⟨v, rfl, ⟨Gr.below H.below hg (fun k hk => Nat.le_trans hB hk), (someP w.heap.size bi v E pre.length).on V V' H.q hs, fun k hk => ⟨(H.lt k hk).1, Nat.lt_of_lt_of_le (H.lt k hk).2 hg.size⟩⟩, h2, Nat.le_trans h3 hg.size⟩
theorem AllI.foot {w : World} {sz bi : Nat} {own2 : Nat → Prop} {E : List Eb} : ∀ pre V fp, AllI w sz bi own2 E pre V fp → ∀ k, fp k → k < V.heap.size ∧ ¬ own2 k := by
  rintro pre V fp ⟨v, rfl, H, h2, h3⟩ k hk
  exact ⟨(H.lt k hk).2, fun h => h2 k h hk⟩
/-- One more item. -/
theorem AllI.next {w W w8 : World} {sz bi : Nat} {own2 : Nat → Prop} {E : List Eb} {pre : List Kv} {p : Kv} {y : Eb} {v v' : Value} {tmp : Obj} (H : Law w W (someP w.heap.size bi v E pre.length)) (h2 : ∀ k, own2 k → ¬ (someP w.heap.size bi v E pre.length).own k) (h3 : sz ≤ W.heap.size) (ho : ∀ k, own2 k → k < sz) (hy : E[pre.length]? = some y)
    (hown : w8.ownsRow w.heap.size 75 10 v' (pre.length + 1) (itsV ((E.take pre.length).map Eb.it) ++ (itC y.it).toList)) (hgrow : (W.drew.alloc tmp).grownBy w8 v.ownBlock) (hat : v'.ownBlock = v.ownBlock ∨ v'.ownBlock = some (W.drew.alloc tmp).heap.size) :
    w8.cell? ⟨bi, 0, none⟩ = some v ∧ w8.frozen? ⟨bi, 0, none⟩ = false ∧ ∃ fp', Gr (someP w.heap.size bi v E pre.length).own W (w8.setCell ⟨bi, 0, none⟩ v') ∧ Grew W (fun k => (someP w.heap.size bi v E pre.length).own k ∨ False) fp' ∧ AllI w sz bi own2 E (pre ++ [p]) (w8.setCell ⟨bi, 0, none⟩ v') fp' := by
  have H0 : Law w W.drew (Part.emp.and (someP w.heap.size bi v E pre.length)) := ⟨H.drew.below, ⟨trivial, H.drew.q, fun _ h => h.elim⟩, fun k hk => hk.elim (fun h => h.elim) (H.drew.lt k)⟩
  obtain ⟨hb, H1, hG, hGr⟩ := app_store H0 hown hgrow hat
  have e1 : E.take (pre ++ [p]).length = E.take pre.length ++ [y] := by rw [List.length_append, List.length_singleton, List.take_add_one, hy]; rfl
  have e2 : itsV ((E.take (pre ++ [p]).length).map Eb.it) = itsV ((E.take pre.length).map Eb.it) ++ (itC y.it).toList := by rw [e1, List.map_append, List.map_singleton, itsV_app]
  have e3 : (pre ++ [p]).length = pre.length + 1 := by simp
  refine ⟨hb.cell, hb.frozen, (someP w.heap.size bi v' E (pre ++ [p]).length).own, ⟨hG.os, hG.tape, hG.output, hG.size, hG.block⟩, fun k hk => ?_, v', rfl, ?_, fun k hk hf => ?_, ?_⟩
  · exact (hGr k hk).imp .inl id
  · have := H1.right
    unfold someP
    rw [e2, e3]
    exact this
  · rcases hGr k hf with h | h
    · exact h2 k hk h
    · exact Nat.not_lt_of_le (Nat.le_trans h3 h) (ho k hk)
  · exact Nat.le_trans h3 hG.size
theorem item_made (c : Nat) (hc : c ≤ 1000) : ∃ CC : Array Value, CC.size = c * 10 ∧ ∀ u : World, (Instr.makeSlice 149 (.int .i64 0) (.int .i64 (c : Int))).run Tryz.prog u = .ok (.slice (some ⟨u.heap.size, 0, none⟩) 0 c) (u.alloc (.cells CC 75)) := by
  obtain ⟨i0, hi, hz0, hz1, hz2⟩ := info_parts info_item
  refine ⟨madeCells (itC zeroIt) (c * i0.size), by rw [size_madeCells, hz1], fun u => (run_make (P := Tryz.prog) u 149 75 i0 _ Tryz.underlying149 hi hz0 .i64 .i64 0 (c : Int) (by omega) (by omega) (by rw [hz2]; omega) (by omega)).trans (by simp only [Int.toNat_zero, Int.toNat_natCast]; rfl)⟩
set_option maxRecDepth 100000 in
set_option maxHeartbeats 8000000 in
theorem all_in (H : LawF F w w ((shP L b sd st x).and R)) (f : Fit n st x) (hn : n ≤ 4398046511104) :
    Calls Tryz.prog 45 #[.pointer (some ⟨b, 0, none⟩)] w fun e w' => ∃ B v, e = .returned (.func (.func 83) #[] #[.pointer (some ⟨B, 0, none⟩)]) ∧ Law w w' (someP w.heap.size B v x.E x.E.length) := by
  refine (callsIn_wide (n := 9)).1 ?_
  obtain ⟨i0, hi, hz0, hz1, hz2⟩ := info_parts info_item
  have hlen : st.ents.length = x.E.length := by rw [f.ents, List.length_map]
  have hE : x.E.length ≤ 901 := by
    have := f.good.nine.1
    omega
  have h5 := f.small5 hn
  obtain ⟨c, hc⟩ : ∃ c, x.E.length = c := ⟨_, rfl⟩
  have hc9 : c ≤ 901 := by omega
  obtain ⟨CC, hCC, hmk⟩ := item_made c (by omega)
  have hsc : ((st.ents.length : Nat) : Int) = (c : Int) := by omega
  have HSC := hide hsc
  have hmix : Tryz.prog.follows .mixedOrders = true := by kernel_rfl
  clear hsc hlen
  refine callsIn_of_wp_marks Tryz.func45 rfl trivial ?_ rfl
  simp only [Tryz.ntmps45, List.size_toArray, List.length_cons, List.length_nil, Nat.reduceAdd, Nat.reduceSub, Array.replicate_succ, Array.replicate_zero, List.push_toArray, List.append_toArray, List.nil_append, List.cons_append]
  gi_wp2_with (first
    | (refine ⟨trivial, ?_⟩; gi_at_call 81; refine (callsIn_wide.2 (len_in H f hn)).mono ?_; rintro e w1 ⟨he, hg1⟩; rw [HSC.out] at he; subst he; have g2 := gr_trans (gr_trans hg1 (World.grownBy_alloc w1 (.cells CC 75) none)) (World.grownBy_alloc (w1.alloc (.cells CC 75)) (.cells #[.slice (some ⟨w1.heap.size, 0, none⟩) 0 c] 149) none); have H2 := H.step g2; obtain ⟨c0, -⟩ := H2.headC)
    | (refine ⟨trivial, ?_⟩; gi_at_call 82; refine (callsIn_wide.2 (L.tb.all H2.tabl h5)).mono ?_; rintro e w3 ⟨g, lb, own2, rfl, hT3, hg3, ho1, ho2, heg, hseq⟩))
  have hsz3 := hg3.size
  simp only [World.size_alloc] at hsz3
  have hs1 := hg1.size
  have hlt2 : ∀ k, own2 k → k < w3.heap.size := fun k hk => (ho2 k hk).elim (fun h => Nat.lt_of_lt_of_le (H2.atLt (A := tableP L x.tb x.tw x.ts) 1 rfl k h) hg3.size) fun h => h.2
  have hw3 : w.heap.size ≤ w3.heap.size := by omega
  have I0 : AllI w w3.heap.size (w1.heap.size + 1) own2 x.E [] w3 (someP w.heap.size (w1.heap.size + 1) (.slice (some ⟨w1.heap.size, 0, none⟩) 0 c) x.E 0).own := by
    have hL0 : Law w w1 Part.emp := Law.ofBelow (below_gr hg1)
    have hrow : (w1.alloc (.cells CC 75)).ownsRow w.heap.size 75 10 (.slice (some ⟨w1.heap.size, 0, none⟩) 0 c) 0 [] := ⟨rfl, .inr ⟨w1.heap.size, c, CC, rfl, hs1, heap_alloc_new w1 _, Nat.zero_le _, Nat.le_trans hc9 (by decide), hCC, by simp⟩⟩
    have hL1 := hL0.new (A := rowP w.heap.size 75 10 (.slice (some ⟨w1.heap.size, 0, none⟩) 0 c) 0 []) (World.grownBy_alloc w1 _ none) hrow (fun k hk => by cases hk; rw [World.size_alloc]; exact ⟨Nat.le_refl _, Nat.lt_succ_self _⟩)
    have hL2 := ((hL1.box (.cells #[.slice (some ⟨w1.heap.size, 0, none⟩) 0 c] 149)).rot).step hg3
    rw [World.size_alloc] at hL2
    refine ⟨_, rfl, hL2, fun k hk hf => ?_, Nat.le_refl _⟩
    rcases ho2 k hk with h | h
    · have h1 := H.atLt (A := tableP L x.tb x.tw x.ts) 1 rfl k h
      have h2 := (hL2.lt k hf).1
      omega
    · have h1 := h.1
      simp only [World.size_alloc] at h1
      rcases hf with hf | hf | hf
      · obtain rfl : k = w1.heap.size := (Option.some.inj hf).symm
        omega
      · obtain rfl : k = w1.heap.size + 1 := hf
        omega
      · exact hf
  have HY : Hid (∀ (pre : List Kv) (p : Kv), pre ++ [p] <+: x.ts.l → ∃ y, x.E[pre.length]? = some y ∧ p = y.kv) := fun pre p hp => by
    obtain ⟨r, hr⟩ := hp
    have h1 : x.ts.l[pre.length]? = some p := by rw [← hr]; simp
    rw [f.tab, List.getElem?_map] at h1
    obtain ⟨y, h2, h3⟩ := Option.map_eq_some_iff.1 h1
    exact ⟨y, h2, h3.symm⟩
  have HN : Hid (x.ts.l.length = x.E.length) := by show _ = _; rw [f.tab, List.length_map]
  have HEnt : Hid (∀ y ∈ x.E, w.heap[y.blk]? = some (.cells y.cells 130 (0, 0))) := fun y hy => H.entAt hy
  clear H2 c0 g2 hsz3 ho2 hT3 hg3 H hmk hCC h5 hc9
  refine range_give rfl (by decide) (gf := g) (lb := lb) rfl trivial heg (hseq (9 - 1) (by decide)) (Below.refl _ _) hlt2 (fun _ => rfl)
    (AllI w w3.heap.size (w1.heap.size + 1) own2 x.E) (fun _ _ _ _ => False) _ (AllI.lasts hw3) (fun c pre V V' fp h => h.elim) AllI.foot I0 ?act ?assign ?body ?done ?stop
  case assign =>
    intro l x W K hK
    unfold kvEnc
    gi_wp2
    exact hK
  case body =>
    rintro l pre p W fp ⟨v, rfl, HJ, hj2, hj3⟩ hsp - -
    obtain ⟨y, hy, rfl⟩ := HY.out pre p hsp
    have hym := List.mem_of_getElem? hy
    have hylt := (List.getElem?_eq_some_iff.1 hy).1
    have hent := HEnt.out y hym
    have hWe : W.heap[y.blk]? = some (.cells y.cells 130 (0, 0)) := (HJ.below.block y.blk (Array.getElem?_eq_some_iff.1 hent).1).trans hent
    have hrow : W.ownsRow w.heap.size 75 10 v pre.length (itsV ((x.E.take pre.length).map Eb.it)) := HJ.q.1
    have hbox : W.heap[w1.heap.size + 1]? = some (.cells #[v] 149) := HJ.q.2.1.1
    have hbl := (Array.getElem?_eq_some_iff.1 hbox).1
    have hyl := (Array.getElem?_eq_some_iff.1 hWe).1
    obtain ⟨v', w8, hrun, hown, hgrow, -, hat⟩ := run_append_own_at (P := Tryz.prog) (W.drew.alloc (.cells (itC y.it) 75)) w.heap.size 149 149 75 i0 _ 10 88 Tryz.underlying149 hi hz0 hz1 hz2 rfl (by decide) v pre.length _ (World.ownsRow.alloc (show W.drew.ownsRow _ _ _ _ _ _ from hrow) _) ⟨W.heap.size, 0, none⟩ 1 1 (itC y.it).toList rfl (row_new W.drew _ _) (it_one y.it) (by unfold maxLen; omega) (by omega) (by rw [World.size_alloc]; have := HJ.below.size; show _ ≤ W.heap.size + 1; omega)
    obtain ⟨g', cap', rfl⟩ := ownsRow_succ hown
    obtain ⟨hb8, hf8, HZ⟩ := AllI.next (p := y.kv) HJ hj2 hj3 hlt2 hy hown hgrow hat
    replace HZ := hide HZ
    obtain ⟨e0, e1, e2, e3, e4, e5, e6, e7, e8, e9⟩ := ent_drew hWe
    have hc1 : W.drew.cell? ⟨w1.heap.size + 1, 0, none⟩ = some v := boxS_cell hbox
    have hc2 : (W.drew.alloc (.cells (itC y.it) 75)).cell? ⟨w1.heap.size + 1, 0, none⟩ = some v := boxS_cell ((Below.heap_alloc _ _ _ hbl).trans hbox)
    have EC : itC y.it = #[.string y.iv.key, .slice y.a y.iv.val.length y.c, .int .u32 y.iv.fl, .int .i64 y.iv.exp, .int .u64 y.iv.cas, .int .i64 y.iv.sec, .int .u64 y.iv.seq, .bool y.iv.st, .bool y.iv.won, .bool y.iv.seen] := rfl
    rw [EC] at hrun hc2
    have hrun2 : (Builtin.append_ #[149, 149] 149 #[v, .slice (some ⟨W.heap.size, 0, none⟩) 1 1]).run Tryz.prog (W.alloc (.cells #[.string y.iv.key, .slice y.a y.iv.val.length y.c, .int .u32 y.iv.fl, .int .i64 y.iv.exp, .int .u64 y.iv.cas, .int .i64 y.iv.sec, .int .u64 y.iv.seq, .bool y.iv.st, .bool y.iv.won, .bool y.iv.seen] 75)).drew = .ok _ w8 := hrun
    have hc3 : (W.alloc (.cells #[.string y.iv.key, .slice y.a y.iv.val.length y.c, .int .u32 y.iv.fl, .int .i64 y.iv.exp, .int .u64 y.iv.cas, .int .i64 y.iv.sec, .int .u64 y.iv.seq, .bool y.iv.st, .bool y.iv.won, .bool y.iv.seen] 75)).drew.cell? ⟨w1.heap.size + 1, 0, none⟩ = some v := hc2
    clear hrun hc2
    unfold Eb.kv
    simp only [Int.toNat_natCast]
    clear hown hgrow hat hrow hbox HJ hj2 hWe EC hent
    gi_wp2
    gi_region_with_o (fail)
    all_goals
      obtain ⟨fp', q1, q2, q3⟩ := HZ.out
      exact ⟨fp', q1, q2, q3⟩
  case stop =>
    rintro D c pre W fp hD hpre h hK hnD
    exact h.elim
  case done =>
    rintro D ys W fp hD rfl ⟨v, rfl, HJ, hj2, hj3⟩ hK hnD
    rw [HN.out] at HJ hnD
    have HE : Law w (W.putObj D (.deferred none)) (someP w.heap.size (w1.heap.size + 1) v x.E x.E.length) := by
      have hg := gr_put (W := W) (F := fun k => k = D) (.deferred none) rfl
      exact ⟨Gr.below HJ.below hg (fun k hk => by omega), Part.on _ _ _ HJ.q fun k hk => World.putObj_heap_other fun e => hnD (by rw [← e]; exact hk), fun k hk => ⟨(HJ.lt k hk).1, Nat.lt_of_lt_of_le (HJ.lt k hk).2 hg.size⟩⟩
    gi_wp2
    refine ⟨by simp, .inl ⟨_, _, rfl, run_takeDeferred hK, ?_⟩⟩
    exact ⟨_, results_tmp rfl _ _ _, _, _, rfl, HE⟩
end
end Go.Proofs.YtkfeafmpaodagaaGreatDoor
