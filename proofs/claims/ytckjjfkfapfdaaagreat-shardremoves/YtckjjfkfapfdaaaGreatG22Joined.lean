/- Victim of package slru, and all its contracts. Conditions: none. The contracts of package bloom, over a word 'Fil' that says which places a filter in memory has set. Nothing of the program is walked here. Conditions: none. The contracts of package sketch, over a word 'Sk' that says what a sketch in memory has counted. Nothing of the program is walked here. Conditions: none. -/
import Derived.Test.YtckjjfkfapfdaaaGreatG21Joined
import Derived.Test.YtckjjfkfapfdaaaGreatG00Joined
import Derived.Test.YtckjjfkfapfdaaaGreatG04Joined
namespace Go.Proofs.YtckjjfkfapfdaaaGreat
open Go.RowKit Go.Maps Go.Shelf
attribute [local go_sem] Oper.semAt_some

theorem results_two {fn : Func} {p q : Tmp} {t u : TypeId} (h : fn.results = #[.cell p t, .cell q u]) (tmps : Array Value) (P : Program) (w : World) :
    (results fn tmps).run P w = ((asAddr (tmps.getD p undef)).run P w).andThen fun a w₁ => ((loadVar t a).run P w₁).andThen fun v w₂ => ((asAddr (tmps.getD q undef)).run P w₂).andThen fun a' w₃ => ((loadVar u a').run P w₃).andThen fun v' w₄ => .ok (.tuple #[v, v']) w₄ := by
  simp only [results, h]
  simp [Sem.run_bind, Result.andThen]
theorem foot_vic {own : Nat → Prop} {w0 : World} {bo : Nat} {o : Obj} {G : List ByteArray → Value → Part} {C : List ByteArray → Value → Prop} (ho : ∀ k, own k → k < w0.heap.size) : ∀ pre V fp, (∃ v, fp = (G pre v).own ∧ Law w0 V ((boxP bo o).and (G pre v)) ∧ C pre v) → ∀ k, fp k → k < V.heap.size ∧ ¬ (own k ∨ k = bo) := by
  rintro pre V fp ⟨v, rfl, H, -⟩ k hk
  refine ⟨(H.lt k (.inr hk)).2, ?_⟩
  rintro (h | h)
  · have h1 := (H.lt k (.inr hk)).1
    have h2 := ho k h
    omega
  · exact H.q.2.2 k h hk
/-- The three boxes of Victim. -/
abbrev vicP (n : Nat) (s : ByteArray) (v q : Value) : Part := (boxP (n + 1 + 1) (.cells #[q] 4)).and ((boxP (n + 1) (.cells #[v] 9)).and ((boxP n (.cells #[.string s] 9)).and Part.emp))
theorem vic_cells {w W : World} {A : Part} {n : Nat} {s : ByteArray} {v q : Value} (H : Law w W (A.and (vicP n s v q))) : Boxed W (n + 1) 9 v ∧ Boxed W (n + 1 + 1) 4 q ∧ Boxed W n 9 (.string s) := ⟨H.q.2.1.2.1.1, H.q.2.1.1, H.q.2.1.2.1.2.1.1⟩
theorem vic_store {w W : World} {A : Part} {n : Nat} {s : ByteArray} {v q : Value} (H : Law w W (A.and (vicP n s v q))) (v' q' : Value) :
    Boxed (W.setCell ⟨n + 1, 0, none⟩ v') (n + 1 + 1) 4 q ∧ Law w ((W.setCell ⟨n + 1, 0, none⟩ v').setCell ⟨n + 1 + 1, 0, none⟩ q') (A.and (vicP n s v' q')) ∧ Gr (vicP n s v q).own W ((W.setCell ⟨n + 1, 0, none⟩ v').setCell ⟨n + 1 + 1, 0, none⟩ q') := by
  have H1 := ((H.rin.rot.set v').rot.rin).rot
  refine ⟨H1.q.1, (H1.set q').rot, ?_⟩
  have g1 := grownBy_setCell' W (n + 1) v'
  have g2 := grownBy_setCell' (W.setCell ⟨n + 1, 0, none⟩ v') (n + 1 + 1) q'
  refine ⟨g2.1.trans g1.1, g2.2.trans g1.2, g2.3.trans g1.3, Nat.le_trans g1.4 g2.4, fun k hk hn => (g2.5 k (Nat.lt_of_lt_of_le hk g1.4) fun e => ?_).trans (g1.5 k hk fun e => ?_)⟩
  · cases e
    exact hn (.inl rfl)
  · cases e
    exact hn (.inr (.inl rfl))
/-- Its answer, out of the two boxes. -/
theorem vic_results {w W : World} {n : Nat} {s : ByteArray} {x : ByteArray} {q : Bool} (H : Law w W (vicP n s (.string x) (.bool q))) {tmps : Array Value} (h4 : tmps.getD 4 undef = .pointer (some ⟨n + 1, 0, none⟩)) (h5 : tmps.getD 5 undef = .pointer (some ⟨n + 1 + 1, 0, none⟩)) : (results Tryz.f80 tmps).run Tryz.prog W = .ok (.tuple #[.string x, .bool q]) W := by
  have c1 := (show Boxed W (n + 1) 9 (.string x) from H.q.2.1.1).cell
  have c2 := (show Boxed W (n + 1 + 1) 4 (.bool q) from H.q.1).cell
  rw [results_two rfl, h4, h5]
  go_simp
abbrev vicB (w : World) (b : Nat) : Part := boxP (w.heap.size + 1 + 1 + 1) (.cells #[.pointer (some ⟨b, 0, none⟩)] 74)
def VicI (w : World) (b : Nat) (s : ByteArray) (pre : List ByteArray) (W : World) (fp : Nat → Prop) : Prop := ∃ _v : Value, fp = (vicP w.heap.size s (.string ⟨#[]⟩) (.bool false)).own ∧ Law w W ((vicB w b).and (vicP w.heap.size s (.string ⟨#[]⟩) (.bool false))) ∧ ∀ y ∈ pre, y = s
def VicX (w : World) (b : Nat) (s : ByteArray) (c : Code) (pre : List ByteArray) (W : World) (fp : Nat → Prop) : Prop := ∃ v : Value, fp = (vicP w.heap.size s v (.bool true)).own ∧ Law w W ((vicB w b).and (vicP w.heap.size s v (.bool true))) ∧ (c = .ret ∧ ∃ p x, pre = p ++ [x] ∧ v = .string x ∧ x ≠ s ∧ ∀ y ∈ p, y = s)
theorem str_ne' {x y : ByteArray} (h : x ≠ y) : (x.toList == y.toList) = false := beq_eq_false_iff_ne.2 fun e => h (by
  rw [ByteArray.toList_eq, ByteArray.toList_eq] at e
  exact ByteArray.ext (Array.toList_inj.1 e))
theorem vic_found {st : Sr} {s x : ByteArray} {p : List ByteArray} (h : p ++ [x] <+: allR st) (hp : ∀ y ∈ p, y = s) (hx : x ≠ s) : vicR st s = some x := by
  obtain ⟨r, hr⟩ := h
  unfold vicR
  rw [← hr, List.append_assoc, List.find?_append]
  have : p.find? (fun y => decide (y ≠ s)) = none := List.find?_eq_none.2 fun y hy => by simp [hp y hy]
  rw [this]
  simp [hx]
theorem vic_nobody {st : Sr} {s : ByteArray} (h : ∀ y ∈ allR st, y = s) : vicR st s = none := List.find?_eq_none.2 fun y hy => by simp [h y hy]
def VicEnd (w : World) (b : Nat) (own : Nat → Prop) (st : Sr) (s : ByteArray) (e : Ending) (w' : World) : Prop := e = .returned (.tuple #[.string ((vicR st s).getD ⟨#[]⟩), .bool (vicR st s).isSome]) ∧ Ls0 w' b own st ∧ w.grownBy w' none
set_option maxRecDepth 100000 in
set_option maxHeartbeats 1000000 in
theorem vicR_any {w : World} {b : Nat} {own : Nat → Prop} {st : Sr} (h : Ls0 w b own st) (s : ByteArray) :
    Calls Tryz.prog 80 #[.pointer (some ⟨b, 0, none⟩), .string s] w (VicEnd w b own st s) := by
  refine (callsIn_wide (n := 9)).1 ?_
  have H0 := (((Law.start w).box (.cells #[.string s] 9)).box (.cells #[.string ⟨#[]⟩] 9)).box (.cells #[.bool false] 4)
  simp only [World.size_alloc] at H0
  refine callsIn_of_wp_marks Tryz.func80 rfl trivial ?_ rfl
  simp only [Tryz.ntmps80, List.size_toArray, List.length_cons, List.length_nil, Nat.reduceAdd, Nat.reduceSub, Array.replicate_succ, Array.replicate_zero, List.push_toArray, List.append_toArray, List.nil_append, List.cons_append]
  gi_wp2_with (refine ⟨trivial, ?_⟩; gi_at_call 114; refine (callsIn_wide.2 (keysMk b _)).mono ?_; rintro e w1 ⟨rfl, hk1⟩)
  have hsz : w1.heap.size = w.heap.size + 1 + 1 + 1 + 1 := by rw [hk1.size]; simp only [World.size_alloc]
  have hbx : w1.heap[w.heap.size + 1 + 1 + 1]? = some (.cells #[.pointer (some ⟨b, 0, none⟩)] 74) := by
    have := hk1.box
    simp only [World.size_alloc] at this
    exact this
  have hgw : w.grownBy w1 none := gr_of_below (H0.step hk1.grown).below
  have H1 : Law w w1 ((boxP (w.heap.size + 1 + 1 + 1) (.cells #[.pointer (some ⟨b, 0, none⟩)] 74)).and (vicP w.heap.size s (.string ⟨#[]⟩) (.bool false))) := H0.new hk1.grown hbx (by rintro k rfl; simp only [World.size_alloc]; omega)
  have ho := h.lt
  have hlt2 : ∀ k, (own k ∨ k = w.heap.size + 1 + 1 + 1) → k < w1.heap.size := fun k hk => hk.elim (fun hh => by have := ho k hh; omega) fun hh => by omega
  have hend : ∀ W, Law w W (vicP w.heap.size s (.string ⟨#[]⟩) (.bool false)) → True := fun _ _ => trivial
  have hL := hide h
  have hseq := keys_at h hgw hbx
  clear H0 hend hk1 h
  refine range_sep rfl (by decide) (gf := 136) (lb := #[.pointer (some ⟨w.heap.size + 1 + 1 + 1, 0, none⟩)]) rfl trivial (fun args u => by kernel_rfl) (hseq (9 - 1) (by decide)) (Below.refl _ _) hlt2 (fun _ => rfl)
    (VicI w b s) (VicX w b s)
    _ (lasts_law (w0 := w) (it := boxP (w.heap.size + 1 + 1 + 1) (.cells #[.pointer (some ⟨b, 0, none⟩)] 74)) (G := fun (_ : List ByteArray) (_ : Value) => vicP w.heap.size s (.string ⟨#[]⟩) (.bool false)) (C := fun pre _ => ∀ y ∈ pre, y = s) (by omega) (fun k hk => hlt2 k (.inr hk))) (fun c => lasts_law (w0 := w) (it := boxP (w.heap.size + 1 + 1 + 1) (.cells #[.pointer (some ⟨b, 0, none⟩)] 74)) (G := fun (_ : List ByteArray) (v : Value) => vicP w.heap.size s v (.bool true)) (C := fun pre v => c = .ret ∧ ∃ p x, pre = p ++ [x] ∧ v = .string x ∧ x ≠ s ∧ ∀ y ∈ p, y = s) (by omega) (fun k hk => hlt2 k (.inr hk))) (foot_vic (G := fun (_ : List ByteArray) (_ : Value) => vicP w.heap.size s (.string ⟨#[]⟩) (.bool false)) (C := fun pre _ => ∀ y ∈ pre, y = s) ho) ⟨undef, rfl, H1, fun y hy => by cases hy⟩ ?act ?assign ?body ?done ?stop
  case assign =>
    intro l x W K hK
    unfold keyEnc
    gi_wp2
    exact hK
  case body =>
    rintro l pre x W fp ⟨_, rfl, HJ, hall⟩ hltN
    clear H1
    obtain ⟨b1, b2, b3⟩ := vic_cells HJ
    have c1 := b1.cell
    have c2 := b2.cell
    have c3 := b3.cell
    have f1 := b1.frozen
    by_cases hx : x = s
    · subst hx
      have HG : Hid (∃ fp', Gr (vicP w.heap.size x (.string ⟨#[]⟩) (.bool false)).own W W ∧ Grew W (vicP w.heap.size x (.string ⟨#[]⟩) (.bool false)).own fp' ∧ VicI w b x (pre ++ [x]) W fp') := by
        refine ⟨_, Gr.refl _ _, fun _ hk => .inl hk, undef, rfl, HJ, fun y hy => ?_⟩
        rcases List.mem_append.1 hy with hy | hy
        · exact hall y hy
        · exact List.mem_singleton.1 hy
      clear hall HJ
      gi_wp2
      exact HG.out
    · obtain ⟨b4, HJ2, hG⟩ := vic_store HJ (.string x) (.bool true)
      have c4 := b4.cell
      have f4 := b4.frozen
      have hne := str_ne' hx
      have HG : Hid (∃ fp', Gr (vicP w.heap.size s (.string ⟨#[]⟩) (.bool false)).own W ((W.setCell ⟨w.heap.size + 1, 0, none⟩ (.string x)).setCell ⟨w.heap.size + 1 + 1, 0, none⟩ (.bool true)) ∧ Grew W (vicP w.heap.size s (.string ⟨#[]⟩) (.bool false)).own fp' ∧ VicX w b s .ret (pre ++ [x]) ((W.setCell ⟨w.heap.size + 1, 0, none⟩ (.string x)).setCell ⟨w.heap.size + 1 + 1, 0, none⟩ (.bool true)) fp') :=
        ⟨_, hG, fun _ hk => .inl hk, .string x, rfl, HJ2, rfl, pre, x, rfl, rfl, hx, hall⟩
      clear hall HJ hx HJ2 hG
      gi_wp2
      exact HG.out
  case stop =>
    rintro D c pre W fp hD hpre ⟨v, rfl, HJ, rfl, p, x, rfl, rfl, hx, hall⟩ hK hnD
    have hf := hide (vic_found hpre hall hx)
    have HE := HJ.right.putD (.deferred none) hnD (by omega)
    have HE2 := hide HE
    clear hall hpre hx H1
    gi_wp2
    refine ⟨by simp, .inl ⟨_, _, rfl, run_takeDeferred hK, ?_⟩⟩
    refine ⟨.tuple #[.string x, .bool true], ?_, ?_⟩
    · exact vic_results HE2.out rfl rfl
    · refine ⟨by rw [hf.out]; rfl, hL.out.grown (gr_of_below HE2.out.below), gr_of_below HE2.out.below⟩
  case done =>
    rintro D ys W fp hD rfl ⟨_, rfl, HJ, hall⟩ hK hnD
    have hf := hide (vic_nobody hall)
    obtain ⟨b1, b2, b3⟩ := vic_cells HJ
    have c1 := b1.cell
    have f1 := b1.frozen
    obtain ⟨b4, HJ2, hG⟩ := vic_store HJ (.string ⟨#[]⟩) (.bool false)
    have c4 := b4.cell
    have f4 := b4.frozen
    have hK2 : ((W.setCell ⟨w.heap.size + 1, 0, none⟩ (.string ⟨#[]⟩)).setCell ⟨w.heap.size + 1 + 1, 0, none⟩ (.bool false)).heap[D]? = some (.deferred (some [])) := (hG.block D (Array.getElem?_eq_some_iff.1 hK).1 hnD).trans hK
    have HE2 := hide (HJ2.right.putD (.deferred none) hnD (by omega))
    clear hall HJ H1 HJ2 hG
    gi_wp2
    refine ⟨by simp, .inl ⟨_, _, rfl, run_takeDeferred hK2, ?_⟩⟩
    refine ⟨.tuple #[.string ⟨#[]⟩, .bool false], ?_, ?_⟩
    · exact vic_results HE2.out rfl rfl
    · refine ⟨by rw [hf.out]; rfl, hL.out.grown (gr_of_below HE2.out.below), gr_of_below HE2.out.below⟩
theorem Ls0.good {w : World} {b : Nat} {own : Nat → Prop} {st : Sr} (h : Ls0 w b own st) : GoodR st := by
  obtain ⟨_, _, _, _, _, _, _, _, h4⟩ := h
  exact h4.good
theorem slru_lib : SlruLib Ls0 where
  lt := fun h => h.lt
  good := fun h => h.good
  keep := fun h hs => h.keep hs
  new := newR_any
  add := fun h hn s hs => addR_any h hn s hs
  hit := fun h hn s hs => hitR_any h hn s hs
  remove := fun h hn s hs => remR_any h hn s hs
  victim := fun h _ s _ => vicR_any h s
end Go.Proofs.YtckjjfkfapfdaaaGreat

namespace Go.Proofs.YtckjjfkfapfdaaaGreat
open Go.RowKit

/-- The contracts of package bloom. -/
structure BloomLib (Fil : World → Nat → Nat → List Nat → Prop) : Prop where
  lt : ∀ {w b sd S}, Fil w b sd S → b < w.heap.size
  good : ∀ {w b sd S}, Fil w b sd S → Good S ∧ sd < 18446744073709551616
  keep : ∀ {w w' b sd S}, Fil w b sd S → w'.heap[b]? = w.heap[b]? → Fil w' b sd S
  new : ∀ (sd : Nat), sd < 18446744073709551616 → ∀ w : World, Calls Tryz.prog 58 #[.int .u64 sd] w fun e w' => ∃ b, e = .returned (.pointer (some ⟨b, 0, none⟩)) ∧ w.heap.size ≤ b ∧ Fil w' b sd [] ∧ w.grownBy w' none
  add : ∀ {w b sd S}, Fil w b sd S → ∀ s : ByteArray, s.size ≤ 300 → Calls Tryz.prog 75 #[.pointer (some ⟨b, 0, none⟩), .string s] w fun e w' => e = .returned (.bool (hasS S (pls sd s.data.toList))) ∧ Fil w' b sd (addS S (pls sd s.data.toList)) ∧ w.grownBy w' (some b)
  has : ∀ {w b sd S}, Fil w b sd S → ∀ s : ByteArray, s.size ≤ 300 → Calls Tryz.prog 106 #[.pointer (some ⟨b, 0, none⟩), .string s] w fun e w' => e = .returned (.bool (hasS S (pls sd s.data.toList))) ∧ Fil w' b sd S ∧ w.grownBy w' none
  clear : ∀ {w b sd S}, Fil w b sd S → Calls Tryz.prog 77 #[.pointer (some ⟨b, 0, none⟩)] w fun e w' => (∃ v, e = .returned v) ∧ Fil w' b sd [] ∧ w.grownBy w' (some b)
variable {Fil : World → Nat → Nat → List Nat → Prop}
theorem BloomLib.kept (L : BloomLib Fil) {w w' : World} {b sd : Nat} {S : List Nat} {row : Option Nat} (h : Fil w b sd S) (hg : w.grownBy w' row) (hr : row ≠ some b) : Fil w' b sd S := L.keep h (hg.block b (L.lt h) (fun e => hr e.symm))
end Go.Proofs.YtckjjfkfapfdaaaGreat

namespace Go.Proofs.YtckjjfkfapfdaaaGreat
open Go.RowKit

/-- The contracts of package sketch. -/
structure SketchLib (Sk : World → Nat → Nat → St → Prop) : Prop where
  lt : ∀ {w b sd st}, Sk w b sd st → b < w.heap.size
  good : ∀ {w b sd st}, Sk w b sd st → GoodK st ∧ sd < 18446744073709551616
  keep : ∀ {w w' b sd st}, Sk w b sd st → w'.heap[b]? = w.heap[b]? → Sk w' b sd st
  new : ∀ (sd : Nat), sd < 18446744073709551616 → ∀ w : World, Calls Tryz.prog 59 #[.int .u64 sd] w fun e w' => ∃ b, e = .returned (.pointer (some ⟨b, 0, none⟩)) ∧ w.heap.size ≤ b ∧ Sk w' b sd fresh ∧ w.grownBy w' none
  add : ∀ {w b sd st}, Sk w b sd st → ∀ s : ByteArray, s.size ≤ 300 → Calls Tryz.prog 76 #[.pointer (some ⟨b, 0, none⟩), .string s] w fun e w' => e = .returned (.bool (halved st)) ∧ Sk w' b sd (addK sd st s.data.toList) ∧ w.grownBy w' (some b)
  count : ∀ {w b sd st}, Sk w b sd st → ∀ s : ByteArray, s.size ≤ 300 → Calls Tryz.prog 137 #[.pointer (some ⟨b, 0, none⟩), .string s] w fun e w' => e = .returned (.int .i64 (cnt st.1 (plcs sd s.data.toList))) ∧ Sk w' b sd st ∧ w.grownBy w' none

variable {Sk : World → Nat → Nat → St → Prop}
theorem SketchLib.kept (L : SketchLib Sk) {w w' : World} {b sd : Nat} {st : St} {row : Option Nat} (h : Sk w b sd st) (hg : w.grownBy w' row) (hr : row ≠ some b) : Sk w' b sd st := L.keep h (hg.block b (L.lt h) (fun e => hr e.symm))
end Go.Proofs.YtckjjfkfapfdaaaGreat
