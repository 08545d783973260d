/- All and Victim of package slru: ranges over its own keys, and over a slice of them. Conditions: lists of at most 1000 keys, for All. -/
import Derived.Test.YtedfhikmlicbgaaSlruKeys
import Derived.Test.YtedfhikmlicbgaaStrRow
import Derived.Maps.OwnIn
namespace Go.Proofs.Ytedfhikmlicbgaa
open Go.RowKit Go.Maps Go.Shelf
attribute [local go_sem] Oper.semAt_some

theorem SeqSep.wider {α : Type} {F : Fence} {n : Nat} {P : Program} {g : Nat} {lb : Array Value} {encs : α → Array Value} {own own' : Nat → Prop} {S Sp : List α → Prop} {N : Nat} {w : World} (h : SeqSep F n P g lb encs own S Sp N w) (ho : ∀ k, own k → own' k) : SeqSep F n P g lb encs own' S Sp N w :=
  fun l J Jx fp0 W hW hJ hJx hfp hY h0 => h l J Jx fp0 W hW hJ hJx (fun pre V fp hj k hk => ⟨(hfp pre V fp hj k hk).1, fun hk' => (hfp pre V fp hj k hk).2 (ho k hk')⟩) hY h0
theorem Law.putD {w0 W : World} {A : Part} (H : Law w0 W A) {D : Nat} (o : Obj) (hD : ¬ A.own D) (h0 : w0.heap.size ≤ D) : Law w0 (W.putObj D o) A := by
  have hg := gr_put (W := W) (F := fun k => k = D) o rfl
  exact ⟨Gr.below H.below hg (fun k hk => by omega), A.on _ _ H.q fun k hk => World.putObj_heap_other fun e => hD (by rw [← e]; exact hk), fun k hk => ⟨(H.lt k hk).1, Nat.lt_of_lt_of_le (H.lt k hk).2 hg.size⟩⟩
set_option maxRecDepth 100000 in
set_option maxHeartbeats 4000000 in
theorem values_seq (n : Nat) (hn : 1 ≤ n) {w : World} {bv n0 : Nat} {v : Value} {xs : List ByteArray} (hx : xs.length ≤ 1000) (hbv : w.heap[bv]? = some (.cells #[v] 28)) (hr : w.ownsRow n0 9 1 v xs.length (strV xs)) :
    SeqSep Fence.wide n Try.prog 36 #[.pointer (some ⟨bv, 0, none⟩)] keyEnc (fun k => k = bv ∨ v.ownBlock = some k) (fun ys => ys = xs) (fun pre => pre <+: xs) xs.length w := by
  intro l J Jx fp0 W hW hJ hJx hfp hY h0
  have hbl : bv < w.heap.size := (Array.getElem?_eq_some_iff.1 hbv).1
  have K0 : Kp (fun k => k = bv ∨ v.ownBlock = some k) w W := fun k hk => by
    have hk' : k < w.heap.size := hk.elim (fun e => e ▸ hbl) fun h => (own_at hr h).2.1
    exact ⟨Nat.lt_of_lt_of_le hk' hW.size, hW.block k hk'⟩
  have r_on : ∀ V, Kp (fun k => k = bv ∨ v.ownBlock = some k) w V → V.ownsRow n0 9 1 v xs.length (strV xs) := fun V hV => own_same hr fun k hk => (hV k (.inr hk)).2
  obtain ⟨a, cap, rfl⟩ := own_shape hr
  have c0 : W.cell? ⟨bv, 0, none⟩ = some (.slice a xs.length cap) := box_cell ((K0 bv (.inl rfl)).2.trans hbv) rfl
  obtain ⟨len, hlen⟩ : ∃ m, xs.length = m := ⟨_, rfl⟩
  rw [hlen] at c0 hY hx K0 r_on hfp
  refine callsIn_of_wp Try.func36 rfl trivial ?_ rfl
  simp only [Try.ntmps36, List.size_toArray, List.length_cons, List.length_nil, Nat.reduceAdd, Nat.reduceSub, Array.replicate_succ, Array.replicate_zero, List.push_toArray, List.append_toArray, List.nil_append, List.cons_append]
  gi_wp2
  gi_loopw [7] (fun i wr => ∃ (k : Nat) (fp : Nat → Prop), k ≤ len ∧ i = .int .i64 k ∧ Kp (fun k => k = bv ∨ (Value.slice a len cap).ownBlock = some k) w wr ∧ J (xs.take k) wr fp) (fun i _ => len - (intOf i).toNat)
  case atStart => exact ⟨0, fp0, Nat.zero_le _, rfl, K0, h0⟩
  case round =>
    clear h0 K0 c0
    obtain ⟨k, fp, hk, rfl, K2, h2⟩ := hrel
    by_cases hlt : k < len
    · have hki : (k : Int) < (len : Int) := by omega
      have hkl : k < xs.length := by omega
      obtain ⟨g, cap', e⟩ := own_form (r_on _ K2) (by omega)
      cases e
      have c1 : wr.cell? ⟨g, k, none⟩ = some (.string xs[k]) := by
        rw [(r_on _ K2).cellAt k (by omega), strV, List.getElem?_map, List.getElem?_eq_getElem hkl]
        rfl
      obtain ⟨fn, tmps, assign, body, hy, hR⟩ := hY _ xs[k] wr fp h2 (by rw [List.length_take]; omega)
      have e1 : xs.take k ++ [xs[k]] = xs.take (k + 1) := by rw [List.take_add_one, List.getElem?_eq_getElem hkl]; rfl
      rw [e1] at hR
      have hfp3 := hfp _ _ _ h2
      unfold keyEnc at hy
      generalize xs[k] = x at *
      gi_wp2
      refine hR.mono ?_
      rintro e W3 ⟨fp4, g4, -, ⟨rfl, h4⟩ | ⟨rfl, h4⟩⟩
      · have K4 := K2.step g4 hfp3
        gi_wp2
        go_roundw
        case rel => exact ⟨k + 1, fp4, by omega, by go_num, K4, h4⟩
        case measure => simp [intOf]; omega
      · gi_wp2
        refine bodyPost_ret (results_none rfl _ _ _) rfl ?_
        exact ⟨⟨_, rfl⟩, .inr ⟨_, fp4, List.take_prefix _ _, h4⟩⟩
    · obtain rfl : k = len := by omega
      have e1 : xs.take k = xs := List.take_of_length_le (by omega)
      gi_wp2
      go_end0
      exact ⟨⟨_, rfl⟩, .inl ⟨_, fp, e1, h2⟩⟩
theorem foot_mid {own : Nat → Prop} {w0 : World} {bo : Nat} {o : Obj} {G : List ByteArray → Value → Part} (ho : ∀ k, own k → k < w0.heap.size) : ∀ pre V fp, (∃ v, fp = (G pre v).own ∧ Law w0 V ((boxP bo o).and (G pre v)) ∧ True) → ∀ k, fp k → k < V.heap.size ∧ ¬ (own k ∨ k = bo) := by
  rintro pre V fp ⟨v, rfl, H, -⟩ k hk
  refine ⟨(H.lt k (.inr hk)).2, ?_⟩
  rintro (h | h)
  · have h1 := (H.lt k (.inr hk)).1
    have h2 := ho k h
    omega
  · exact H.q.2.2 k h hk
set_option maxRecDepth 100000 in
set_option maxHeartbeats 4000000 in
theorem append_seq {w V : World} {bo g : Nat} {own : Nat → Prop} {o : Obj} {v : Value} {xs : List ByteArray} {lb : Array Value} (ho : ∀ k, own k → k < w.heap.size) (hx : xs.length ≤ 1000) (H : Law w V ((boxP bo o).and ((rowP w.heap.size 9 1 v 0 []).and Part.emp)))
    (heg : ∀ args u, (callFunc g args).run Try.prog u = .ok (.enter g args) u) (hseq : ∀ n, 1 ≤ n → SeqSep Fence.wide n Try.prog g lb keyEnc (fun k => own k ∨ k = bo) (fun ys => ys = xs) (fun pre => pre <+: xs) xs.length V) :
    Calls Try.prog 34 #[v, .func (.func g) #[] lb] V fun e w' => ∃ v', e = .returned v' ∧ Law w w' ((rowP w.heap.size 9 1 v' xs.length (strV xs)).and Part.emp) := by
  refine (callsIn_wide (n := 9)).1 ?_
  obtain ⟨i0, hi, hz0, hz1, hz2⟩ := info_parts info_str
  obtain ⟨sa, scap, rfl⟩ := own_shape H.q.2.1.1
  have H1 := ((H.box (.cells #[.slice sa 0 scap] 28)).rot).rin
  have hlt2 : ∀ k, (own k ∨ k = bo) → k < V.heap.size := fun k hk => hk.elim (fun h => Nat.lt_of_lt_of_le (ho k h) H.below.size) fun h => (H.lt k (.inl h)).2
  have hw1 := H.below.size
  clear H
  refine callsIn_of_wp_marks Try.func34 rfl trivial ?_ rfl
  simp only [Try.ntmps34, List.size_toArray, List.length_cons, List.length_nil, Nat.reduceAdd, Nat.reduceSub, Array.replicate_succ, Array.replicate_zero, List.push_toArray, List.append_toArray, List.nil_append, List.cons_append]
  gi_wp2
  refine range_sep rfl (by decide) (gf := g) (lb := lb) rfl trivial heg (hseq (9 - 1) (by decide)) (below_gr (World.grownBy_alloc _ _ _)) (fun k hk => by have := hlt2 k hk; rw [World.size_alloc]; omega) (fun _ => rfl)
    (fun pre W fp => ∃ v, fp = ((rowP w.heap.size 9 1 v pre.length (strV pre)).and ((boxP V.heap.size (.cells #[v] 28)).and Part.emp)).own ∧ Law w W ((boxP bo o).and ((rowP w.heap.size 9 1 v pre.length (strV pre)).and ((boxP V.heap.size (.cells #[v] 28)).and Part.emp))) ∧ True)
    (fun _ _ _ _ => False)
    _ (lasts_law (by rw [World.size_alloc]; omega) (fun k hk => by have := hlt2 k (.inr hk); rw [World.size_alloc]; omega)) (fun c pre V V' fp h => h.elim) (foot_mid ho) ⟨_, rfl, H1, trivial⟩ ?act ?assign ?body ?done (fun D c pre W fp _ _ h => h.elim)
  case assign =>
    intro l x W K hK
    unfold keyEnc
    gi_wp2
    exact hK
  case body =>
    rintro l pre x W fp ⟨v, rfl, HJ, -⟩ hltN
    clear H1
    have hlen : pre.length < 1000 := by omega
    have hbo : Boxed W V.heap.size 28 v := HJ.q.2.1.2.1.1
    have hrow : W.ownsRow w.heap.size 9 1 v pre.length (strV pre) := HJ.q.2.1.1
    have hcv := hbo.cell
    have hB := HJ.below.size
    have e1 : (pre ++ [x]).length = pre.length + 1 := by simp
    gi_wp2_with (gi_at_builtin; refine wpListIn_append_own_at _ rfl _ _ 28 rfl w.heap.size 9 i0 (.string ⟨#[]⟩) 1 16 Try.underlying28 hi hz0 hz1 hz2 rfl (by decide) _ _ _ rfl (hrow.alloc _) ⟨W.heap.size, 0, none⟩ 1 1 [.string x] rfl rfl (cell_one_new _ _ _) (by simp [Value.oneCell']) (by unfold maxLen; omega) (by omega) (by simp; omega) ?_; intro v' w2 hown' hgrow _ hat; obtain ⟨g', cap', rfl⟩ := ownsRow_succ hown'; obtain ⟨hv1, HJ2, hG2, hGr2⟩ := app_store HJ hown' hgrow hat; have hc1 := hv1.cell; have hf1 := hv1.frozen)
    exact ⟨_, hG2, hGr2, _, by rw [e1, strV_app], by rw [e1, strV_app]; exact HJ2, trivial⟩
  case done =>
    rintro D ys W fp hD rfl ⟨v, rfl, HJ, -⟩ hK hnD
    have hbo : Boxed W V.heap.size 28 v := HJ.q.2.1.2.1.1
    have hcv := hbo.cell
    rw [World.size_alloc] at hD
    have HE := hide (((HJ.right).putD (.deferred none) hnD (by omega)).left.weak (B := (rowP w.heap.size 9 1 v ys.length (strV ys)).and Part.emp) (fun h => ⟨h, trivial, fun _ _ h => h⟩) fun k hk => hk.elim id fun h => h.elim)
    gi_wp2
    refine ⟨by simp, .inl ⟨_, _, rfl, run_takeDeferred hK, ?_⟩⟩
    exact ⟨_, results_tmp rfl _ _ _, _, rfl, by exact HE.out⟩
end Go.Proofs.Ytedfhikmlicbgaa
