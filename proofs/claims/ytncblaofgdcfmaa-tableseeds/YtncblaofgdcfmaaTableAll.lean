/- The statements' own helper that goes over a table's pairs, and the one that holds two lists of them against each other. Conditions: the contracts of package table. -/
import Derived.Test.YtncblaofgdcfmaaTableLaw
import Derived.Deep.QuietTactic
import Derived.BigQuiet
import Derived.Maps.OwnIn
namespace Go.Proofs.Ytncblaofgdcfmaa
open Go.RowKit Go.Shelf
attribute [local go_sem] Oper.semAt_some
variable {Tb : World → Nat → (Nat → Prop) → Ts → Prop}

theorem info_pair : (Try.prog.info? 45).map (fun i => (i.zero, i.size, i.bytes)) = some (some (.agg #[.string ⟨#[]⟩, .int .i64 0]), 2, 24) := by kernel_rfl
/-- Pairs as cells. -/
def kvV (xs : List Kv) : List Value := xs.flatMap fun p => [.string p.1, .int .i64 p.2]
theorem kvV_app (xs : List Kv) (x : Kv) : kvV (xs ++ [x]) = kvV xs ++ [.string x.1, .int .i64 x.2] := by simp [kvV]
theorem kvV_len (xs : List Kv) : (kvV xs).length = xs.length * 2 := by
  induction xs with
  | nil => rfl
  | cons p l ih =>
    show (kvV l).length + 1 + 1 = _
    rw [ih, List.length_cons]
    omega
/-- A table's pairs in a slice of the statement's own. -/
abbrev pairsP (n0 : Nat) (v : Value) (xs : List Kv) : Part := rowP n0 45 2 v xs.length (kvV xs)
/-- Blocks that lie as they lay. -/
def itP (own : Nat → Prop) (W : World) : Part := ⟨own, fun V => SameOn own W V, fun _ _ h hs k hk => (hs k hk).trans (h k hk)⟩
section
variable {w0 w w' : World} {b : Nat} {own own' own2 : Nat → Prop} {st st' : Ts} {R : Part}
theorem Law.iter {L : TableLib Tb} (H : Law w0 w ((tbP L b own st).and R)) (hg : w.grownBy w' none) (h2 : ∀ k, own2 k → own k ∨ (w.heap.size ≤ k ∧ k < w'.heap.size)) : Law w0 w' ((itP own2 w').and R) := by
  have S := H.step hg
  refine H.turn (A' := itP own2 w') (fun k _ => rfl) (fun k hk => ?_) ⟨hg.1, hg.2, hg.3, hg.4, fun k hk _ => hg.5 k hk (by simp)⟩ fun k hk => (h2 k hk).imp id And.left
  rcases h2 k hk with h | h
  · exact (S.lt k (.inl h)).2
  · exact h.2
theorem Law.uniter {L : TableLib Tb} {V : World} (H : Law w0 V ((itP own2 w').and R)) (h : Tb w' b own st) (h1 : ∀ k, own k → own2 k) : Law w0 V ((tbP L b own st).and R) :=
  H.weak1 (A' := tbP L b own st) (fun hq => L.keep h fun k hk => hq k (h1 k hk)) fun k hk => h1 k hk
end
theorem pre_snoc9 {l pre : List Kv} {x : Kv} {m : Nat} (h : pre ++ [x] <+: l) (hm : (pre ++ [x]).length = m) : pre ++ [x] = l.take m := by
  obtain ⟨r, rfl⟩ := h
  rw [← hm, List.take_left']
  rfl
/-- Behind the loop's record. -/
theorem Law.put {w0 W : World} {A : Part} (H : Law w0 W A) {D : Nat} (o : Obj) (hD : ¬ A.own D) (h0 : w0.heap.size ≤ D) : Law w0 (W.putObj D o) A := by
  have hg := gr_put (W := W) (F := fun k => k = D) o rfl
  exact ⟨Gr.below H.below hg (fun k hk => by omega), A.on _ _ H.q fun k hk => World.putObj_heap_other fun e => hD (by rw [← e]; exact hk), fun k hk => ⟨(H.lt k hk).1, Nat.lt_of_lt_of_le (H.lt k hk).2 hg.size⟩⟩
theorem all_end {L : TableLib Tb} {w0 w1 W : World} {b D : Nat} {own own2 : Nat → Prop} {st   : Ts} {row bo bm R : Part} (H : Law w0 W ((itP own2 w1).and (row.and (bo.and (bm.and R))))) (hL1 : Tb w1 b own st) (ho1 : ∀ k, own k → own2 k) (h2 : ¬ own2 D) (hD : ¬ (row.and (bo.and (bm.and R))).own D) (h0 : w0.heap.size ≤ D) : Law w0 (W.putObj D (.deferred none)) (row.and ((tbP L b own st).and R)) := by
  have H1 := H.put (.deferred none) (fun h => h.elim h2 hD) h0
  have H2 := (H1.uniter (L := L) hL1 ho1).rot
  exact H2.in1 (R' := (tbP L b own st).and R) (fun h => ⟨h.1, h.2.1.2.1.2.1, fun k hl hr => h.2.2 k hl (.inr (.inr hr))⟩) fun k hk => hk.imp id fun h => .inr (.inr h)
set_option maxRecDepth 100000 in
set_option maxHeartbeats 4000000 in
theorem all_in (L : TableLib Tb) {w0 w : World} {b : Nat} {own : Nat → Prop} {st   : Ts} {R : Part} (H : Law w0 w ((tbP L b own st).and R)) (hn : SmallT st 5000) (m : Int) (hm1 : 1 ≤ m) (hm2 : m ≤ 3000) :
    Calls Try.prog 22 #[.pointer (some ⟨b, 0, none⟩), .int .i64 m] w fun e w' => ∃ v, e = .returned v ∧ Law w0 w' ((pairsP w0.heap.size v (st.l.take m.toNat)).and ((tbP L b own st).and R)) := by
  refine (callsIn_wide (n := 9)).1 ?_
  obtain ⟨i0, hi, hz0, hz1, hz2⟩ := info_parts info_pair
  have H1 := ((H.box (.cells #[.int .i64 m] 3)).box (.cells #[.slice none 0 0] 37)).rin.rot
  rw [World.size_alloc] at H1
  have cm := (show Boxed _ _ _ _ from H1.q.2.1.2.1.1).cell
  refine callsIn_of_wp_marks Try.func22 rfl trivial ?_ rfl
  simp only [Try.ntmps22, List.size_toArray, List.length_cons, List.length_nil, Nat.reduceAdd, Nat.reduceSub, Array.replicate_succ, Array.replicate_zero, List.push_toArray, List.append_toArray, List.nil_append, List.cons_append]
  gi_wp2_with (refine ⟨trivial, ?_⟩; gi_at_call 32; refine (callsIn_wide.2 (L.all H1.tb hn)).mono ?_; rintro e w1 ⟨g, lb, own2, rfl, hL1, hg1, ho1, ho2, heg, hseq⟩)
  have hsz1 := hg1.size
  simp only [World.size_alloc] at hsz1
  have H2 := (H1.iter hg1 ho2).nil (n0 := w0.heap.size) (e := 45) (size := 2)
  have H3 := H2.rot
  have hlt2 : ∀ k, own2 k → k < w1.heap.size := fun k hk => (H3.lt k (.inl hk)).2
  have hw1 := H3.below.size
  clear H1 H2 cm hg1 ho2
  refine range_sep rfl (by decide) (gf := g) (lb := lb) rfl trivial heg (hseq (9 - 1) (by decide)) (Below.refl _ _) hlt2 (fun _ => rfl)
    (fun pre W fp => ∃ v, fp = ((rowP w0.heap.size 45 2 v pre.length (kvV pre)).and ((boxP (w.heap.size + 1) (.cells #[v] 37)).and ((boxP w.heap.size (.cells #[.int .i64 m] 3)).and R))).own ∧ Law w0 W ((itP own2 w1).and ((rowP w0.heap.size 45 2 v pre.length (kvV pre)).and ((boxP (w.heap.size + 1) (.cells #[v] 37)).and ((boxP w.heap.size (.cells #[.int .i64 m] 3)).and R)))) ∧ pre.length < m.toNat)
    (fun c pre W fp => ∃ v, fp = ((rowP w0.heap.size 45 2 v pre.length (kvV pre)).and ((boxP (w.heap.size + 1) (.cells #[v] 37)).and ((boxP w.heap.size (.cells #[.int .i64 m] 3)).and R))).own ∧ Law w0 W ((itP own2 w1).and ((rowP w0.heap.size 45 2 v pre.length (kvV pre)).and ((boxP (w.heap.size + 1) (.cells #[v] 37)).and ((boxP w.heap.size (.cells #[.int .i64 m] 3)).and R)))) ∧ (c = .exit 0 ∧ pre.length = m.toNat))
    _ (lasts_law hw1 hlt2) (fun c => lasts_law hw1 hlt2) foot_law ⟨_, rfl, H3, by simp; omega⟩ ?act ?assign ?body ?done ?stop
  case assign =>
    intro l x W K hK
    unfold kvEnc
    gi_wp2
    exact hK
  case body =>
    rintro l pre x W fp ⟨v, rfl, HJ, hlm⟩ hltN
    clear H3
    have hlen : pre.length < 3000 := by omega
    have hbo : Boxed W (w.heap.size + 1) 37 v := HJ.q.2.1.2.1.1
    have hbm : Boxed W w.heap.size 3 (.int .i64 m) := HJ.q.2.1.2.1.2.1.1
    have hrow : W.ownsRow w0.heap.size 45 2 v pre.length (kvV pre) := HJ.q.2.1.1
    have hcv := hbo.cell
    have hB := HJ.below.size
    have e1 : (pre ++ [x]).length = pre.length + 1 := by simp
    by_cases hbr : (pre.length : Int) + 1 = m
    · have hbb : ((pre.length : Int) + 1 == m) = true := beq_iff_eq.2 hbr
      have HE : Hid ((pre ++ [x]).length = m.toNat) := by rw [e1]; show _ = _; omega
      clear hbr
      gi_wp2_with (gi_at_builtin; refine wpListIn_append_own_at _ rfl _ _ 37 rfl w0.heap.size 45 i0 (.agg #[.string ⟨#[]⟩, .int .i64 0]) 2 24 Try.underlying37 hi hz0 hz1 hz2 rfl (by decide) _ _ _ rfl (hrow.alloc _) ⟨W.heap.size, 0, none⟩ 1 1 [.string x.1, .int .i64 x.2] rfl rfl (cell_two_new _ _ _ _) (by simp [Value.oneCell']) (by unfold maxLen; omega) (by omega) (by simp; omega) ?_; intro v' w2 hown' hgrow _ hat; obtain ⟨g', cap', rfl⟩ := ownsRow_succ hown'; obtain ⟨hv1, HJ2, hG2, hGr2⟩ := app_store HJ hown' hgrow hat; have hc1 := hv1.cell; have hf1 := hv1.frozen; have hc2 := (show Boxed _ (w.heap.size + 1) 37 _ from HJ2.q.2.1.2.1.1).cell; have hc3 := (show Boxed _ w.heap.size 3 _ from HJ2.q.2.1.2.1.2.1.1).cell)
      exact ⟨_, hG2, hGr2, _, by rw [e1, kvV_app], by rw [e1, kvV_app]; exact HJ2, rfl, HE.out⟩
    · have hbb : ((pre.length : Int) + 1 == m) = false := beq_eq_false_iff_ne.2 hbr
      have HE : Hid ((pre ++ [x]).length < m.toNat) := by rw [e1]; show _ < _; omega
      clear hbr
      gi_wp2_with (gi_at_builtin; refine wpListIn_append_own_at _ rfl _ _ 37 rfl w0.heap.size 45 i0 (.agg #[.string ⟨#[]⟩, .int .i64 0]) 2 24 Try.underlying37 hi hz0 hz1 hz2 rfl (by decide) _ _ _ rfl (hrow.alloc _) ⟨W.heap.size, 0, none⟩ 1 1 [.string x.1, .int .i64 x.2] rfl rfl (cell_two_new _ _ _ _) (by simp [Value.oneCell']) (by unfold maxLen; omega) (by omega) (by simp; omega) ?_; intro v' w2 hown' hgrow _ hat; obtain ⟨g', cap', rfl⟩ := ownsRow_succ hown'; obtain ⟨hv1, HJ2, hG2, hGr2⟩ := app_store HJ hown' hgrow hat; have hc1 := hv1.cell; have hf1 := hv1.frozen; have hc2 := (show Boxed _ (w.heap.size + 1) 37 _ from HJ2.q.2.1.2.1.1).cell; have hc3 := (show Boxed _ w.heap.size 3 _ from HJ2.q.2.1.2.1.2.1.1).cell)
      exact ⟨_, hG2, hGr2, _, by rw [e1, kvV_app], by rw [e1, kvV_app]; exact HJ2, HE.out⟩
  case stop =>
    rintro D c pre W fp hD hpre ⟨v, rfl, HJ, rfl, hlen⟩ hK hnD
    have hpt : pre = st.l.take m.toNat := by
      obtain ⟨r, hr⟩ := hpre
      rw [← hr, ← hlen, List.take_left']
      rfl
    have hbo : Boxed W (w.heap.size + 1) 37 v := HJ.q.2.1.2.1.1
    have hcv := hbo.cell
    have HE := all_end (L := L) HJ hL1 ho1 (fun h => Nat.lt_irrefl _ (Nat.lt_of_lt_of_le (hlt2 _ h) hD)) hnD (Nat.le_trans hw1 hD)
    have hpt2 := hide hpt
    clear hpt hpre hlen
    gi_wp2
    refine ⟨by simp, .inl ⟨_, _, rfl, run_takeDeferred hK, ?_⟩⟩
    exact ⟨_, results_tmp rfl _ _ _, _, rfl, by rw [← hpt2.out]; exact HE⟩
  case done =>
    rintro D ys W fp hD rfl ⟨v, rfl, HJ, hlm⟩ hK hnD
    have hpt : st.l = st.l.take m.toNat := (List.take_of_length_le (Nat.le_of_lt hlm)).symm
    have hbo : Boxed W (w.heap.size + 1) 37 v := HJ.q.2.1.2.1.1
    have hcv := hbo.cell
    have HE := all_end (L := L) HJ hL1 ho1 (fun h => Nat.lt_irrefl _ (Nat.lt_of_lt_of_le (hlt2 _ h) hD)) hnD (Nat.le_trans hw1 hD)
    have hpt2 := hide hpt
    clear hpt hlm
    gi_wp2
    refine ⟨by simp, .inl ⟨_, _, rfl, run_takeDeferred hK, ?_⟩⟩
    exact ⟨_, results_tmp rfl _ _ _, _, rfl, by rw [← hpt2.out]; exact HE⟩
set_option maxHeartbeats 2000000 in
theorem all_is (L : TableLib Tb) {w0 w : World} {b : Nat} {own : Nat → Prop} {st   : Ts} {R : Part} (H : Law w0 w ((tbP L b own st).and R)) (hn : SmallT st 5000) (m : Int) (hm : m ≤ 3000) (xs : List Kv) (hx : st.l.take m.toNat = xs) :
    Calls Try.prog 22 #[.pointer (some ⟨b, 0, none⟩), .int .i64 m] w fun e w' => ∃ v, e = .returned v ∧ Law w0 w' ((tbP L b own st).and ((pairsP w0.heap.size v xs).and R)) := by
  subst hx
  by_cases h1 : 1 ≤ m
  · exact (all_in L H hn m h1 hm).mono fun _ _ ⟨v, h2, h3⟩ => ⟨v, h2, h3.rot⟩
  · have h0 : m.toNat = 0 := by omega
    rw [h0, List.take_zero]
    have H1 := (((H.alloc (.cells #[.int .i64 m] 3)).alloc (.cells #[.slice none 0 0] 37)).nil (n0 := w0.heap.size) (e := 45) (size := 2)).rot
    have hm1 : m < 1 := by omega
    have cm := ((Boxed.new w 3 (.int .i64 m)).alloc (.cells #[.slice none 0 0] 37)).cell
    clear h0 h1
    go_enter Try.func22, Try.ntmps22
    go_wp2
    go_ret
    exact ⟨_, rfl, H1⟩

/-- A slice that holds these pairs: nil or empty where there are none, else a row of cells. -/
def HoldsP (w : World) (v : Value) (xs : List Kv) : Prop :=
  ∃ a cap, v = .slice a xs.length cap ∧ (∀ (i : Nat) (p : Kv), xs[i]? = some p → ∃ b off, a = some ⟨b, off, none⟩ ∧ w.cell? ⟨b, off + i * 2, none⟩ = some (.string p.1) ∧ w.cell? ⟨b, off + i * 2 + 1, none⟩ = some (.int .i64 p.2)) ∧ (a = none → cap = 0)
theorem kvV_at : ∀ {xs : List Kv} {i : Nat} {p : Kv}, xs[i]? = some p → (kvV xs)[i * 2]? = some (.string p.1) ∧ (kvV xs)[i * 2 + 1]? = some (.int .i64 p.2)
  | [], i, p, h => by simp at h
  | q :: l, 0, p, h => by
    simp at h
    subst h
    exact ⟨rfl, rfl⟩
  | q :: l, i + 1, p, h => by
    rw [List.getElem?_cons_succ] at h
    have := kvV_at h
    have e : (i + 1) * 2 = i * 2 + 1 + 1 := by omega
    rw [e]
    exact this
theorem pairs_own {w : World} {base : Nat} {v : Value} {xs : List Kv} (h : w.ownsRow base 45 2 v xs.length (kvV xs)) : HoldsP w v xs := by
  rcases h.2 with ⟨rfl, h0⟩ | ⟨g, cap, cur, rfl, hg, hh, r⟩
  · exact ⟨none, 0, by rw [h0], fun i p hi => by have := (List.getElem?_eq_some_iff.1 hi).1; omega, fun _ => rfl⟩
  · refine ⟨some ⟨g, 0, none⟩, cap, rfl, fun i p hi => ⟨g, 0, rfl, ?_⟩, fun e => by cases e⟩
    have h' : w.ownsRow base 45 2 (.slice (some ⟨g, 0, none⟩) xs.length cap) xs.length (kvV xs) := h
    have hl := (List.getElem?_eq_some_iff.1 hi).1
    obtain ⟨k1, k2⟩ := kvV_at hi
    rw [Nat.zero_add, h'.cellAt _ (by omega), h'.cellAt _ (by omega)]
    exact ⟨k1, k2⟩
theorem pairs_take {w : World} {a : Option Addr} {cap : Nat} {xs : List Kv} (h : HoldsP w (.slice a xs.length cap) xs) (k : Nat) (hk : k ≤ xs.length) : HoldsP w (.slice a k cap) (xs.take k) := by
  obtain ⟨a', cap', e, hc, hcn⟩ := h
  cases e
  have hl : (xs.take k).length = k := by rw [List.length_take]; omega
  refine ⟨a, cap, by rw [hl], fun i p hi => ?_, hcn⟩
  have hik : i < k := by
    have := (List.getElem?_eq_some_iff.1 hi).1
    omega
  rw [List.getElem?_take, if_pos hik] at hi
  exact hc i p hi
set_option maxHeartbeats 2000000 in
theorem same_eq (w : World) (v u : Value) (xs : List Kv) (hx : xs.length ≤ 140737488351232) (hv : HoldsP w v xs) (hu : HoldsP w u xs) :
    Calls Try.prog 21 #[v, u] w fun e w' => e = .returned (.bool true) ∧ w.grownBy w' none := by
  obtain ⟨a, c, rfl, ha, -⟩ := hv
  obtain ⟨b, d, rfl, hb, -⟩ := hu
  obtain ⟨n, hn⟩ : ∃ n, xs.length = n := ⟨_, rfl⟩
  rw [hn] at hx ⊢
  go_enter Try.func21, Try.ntmps21
  go_wp2
  go_loopw [5] (fun i wr => ∃ k j : Nat, k ≤ n ∧ i = .int .i64 k ∧ wr = w.drewN j) (fun i _ => n - (intOf i).toNat)
  case atStart => exact ⟨0, 0, Nat.zero_le _, rfl, (World.drewN_zero w).symm⟩
  case round =>
    obtain ⟨k, j, hk, rfl, rfl⟩ := hrel
    by_cases hlt : k < n
    · have hkx : xs[k]? = some (xs[k]'(by omega)) := List.getElem?_eq_getElem _
      obtain ⟨b1, o1, rfl, c1, c2⟩ := ha k _ hkx
      obtain ⟨b2, o2, rfl, c3, c4⟩ := hb k _ hkx
      obtain ⟨⟨x, y⟩, hxx⟩ : ∃ p, p = xs[k]'(by omega) := ⟨_, rfl⟩
      rw [← hxx] at c1 c2 c3 c4
      have hki : (k : Int) < (n : Int) := by omega
      clear ha hb hxx hkx
      go_wp2
      go_quiet (fail)
      go_wp2
      go_roundw
      case rel => exact ⟨k + 1, _, by omega, by go_num, rfl⟩
      case measure => simp [intOf]; omega
    · go_wp2
      go_ret
      exact ⟨rfl, rfl, rfl, rfl, Nat.le_refl _, fun _ _ _ => rfl⟩
theorem str_eq {x y : ByteArray} (h : x.toList = y.toList) : x = y := by
  rw [ByteArray.toList_eq, ByteArray.toList_eq] at h
  exact ByteArray.ext (Array.toList_inj.1 h)
theorem str_ne {x y : ByteArray} (h : x ≠ y) : (x.toList == y.toList) = false := beq_eq_false_iff_ne.2 fun e => h (str_eq e)
theorem getL_put_same {l : List Kv} (h : Rising l) (k : ByteArray) (v : Int) : getL k (putL k v l) = some v := (getL_some (rising_put h)).2 ((mem_putL h).2 (.inl rfl))
theorem opt_ext {a b : Option Int} (h : ∀ v, a = some v ↔ b = some v) : a = b := by
  cases a with
  | none =>
    cases b with
    | none => rfl
    | some x => exact absurd ((h x).2 rfl) (by simp)
  | some x => exact ((h x).1 rfl).symm
theorem getL_put_other {l : List Kv} (h : Rising l) {k o : ByteArray} (v : Int) (hne : k ≠ o) : getL o (putL k v l) = getL o l := opt_ext fun x => by
  rw [getL_some (rising_put h), getL_some h, mem_putL h]
  constructor
  · rintro (e | ⟨h1, _⟩)
    · cases e; exact absurd rfl hne
    · exact h1
  · exact fun h1 => .inr ⟨h1, fun e => hne e.symm⟩
theorem getL_del_same {l : List Kv} (h : Rising l) (k : ByteArray) : getL k (delL k l) = none := by
  cases hg : getL k (delL k l) with
  | none => rfl
  | some v => exact absurd rfl (mem_delL.1 ((getL_some (rising_del h)).1 hg)).2
theorem getL_del_other {l : List Kv} (h : Rising l) {k o : ByteArray} (hne : k ≠ o) : getL o (delL k l) = getL o l := opt_ext fun x => by
  rw [getL_some (rising_del h), getL_some h, mem_delL]
  exact ⟨fun h => h.1, fun h1 => ⟨h1, fun e => hne e.symm⟩⟩
end Go.Proofs.Ytncblaofgdcfmaa
