/- The contracts of package slru, out of the program's own text: New, Add, Hit, Remove, Len, Protected. Conditions: none. The contracts of package slru: Add, Hit, Remove. Conditions: none. -/
import Derived.Test.YtkfeafmpaodagaaGreatDoorG16Joined
import Derived.Test.YtkfeafmpaodagaaGreatDoorG13Joined
import Derived.StringKeys
namespace Go.Proofs.YtkfeafmpaodagaaGreatDoor
open Go.RowKit Go.Maps

/-- Elements as they stand. -/
def heldElem (v : Value) : Option (DataW Value × List MemPlace) := some (.held v, [])
def keyS (s : ByteArray) : Lit := .string s.data.toList
theorem keyed_str : Keyed Tryz.prog 9 := string_keyed Tryz.underlying9
theorem keyOf_str {s : ByteArray} (h : s.size ≤ maxLen) : keyOf Tryz.prog 9 (.string s) = some (keyS s) := Go.WideMaps.keyOf_string_mk Tryz.underlying9 h
theorem keyS_inj {s t : ByteArray} (h : keyS s = keyS t) : s = t := by
  unfold keyS at h
  cases s; cases t
  simp at h
  rw [h]
theorem keyS_lit (s : ByteArray) : WideAt.IsKeyLit (keyS s) := by unfold keyS; trivial
theorem zero_node (w : World) : (zeroValue 106).run Tryz.prog w = .ok (.pointer none) w := by kernel_rfl
abbrev nodeP (bm : Nat) (D : DataW Value) : Part := mapP Tryz.prog 9 heldElem bm D
def ptr (k : Nat) : Value := .pointer (some ⟨k, 0, none⟩)
/-- What the map has. -/
structure ToldR (D : DataW Value) (l : List Nk) : Prop where
  has : ∀ s : ByteArray, Maps.has D (keyS s) = hasK (keysN l) s
  find : ∀ x ∈ l, ∀ z, D.atKey (keyS x.2) z = .held (ptr x.1)
  size : Maps.size D = l.length
  isMap : IsMap D
theorem look_node {w : World} {bm : Nat} {D : DataW Value} {s : ByteArray} (h : (nodeP bm D).q w) (hs : s.size ≤ maxLen) : ∃ v, (Instr.lookup 105 (.map (some bm)) (.string s) true).run Tryz.prog w = .ok (.tuple #[v, .bool (Maps.has D (keyS s))]) w ∧ D.atKey (keyS s) (.held (.pointer none)) = .held v := by
  have h' : w.ownsMap Tryz.prog 9 heldElem bm (Maps.size D) D := h
  obtain ⟨v, ps, hrun, hv⟩ := h'.look_ok keyed_str Tryz.underlying105 (zero_node w) (zd := .held (.pointer none)) (zp := []) rfl (keyOf_str hs)
  refine ⟨v, hrun, ?_⟩
  unfold heldElem at hv
  simp at hv
  exact hv.1.symm
theorem lookR_in {w : World} {bm : Nat} {D : DataW Value} {l : List Nk} (h : (nodeP bm D).q w) (T : ToldR D l) {x : Nk} (hx : x ∈ l) (hs : x.2.size ≤ maxLen) : (Instr.lookup 105 (.map (some bm)) (.string x.2) true).run Tryz.prog w = .ok (.tuple #[.pointer (some ⟨x.1, 0, none⟩), .bool true]) w := by
  obtain ⟨v, h1, h2⟩ := look_node h hs
  rw [T.find x hx] at h2
  rw [h1, T.has, hasK_iff.2 (List.mem_map_of_mem hx)]
  cases h2
  rfl
theorem look_out {w : World} {bm : Nat} {D : DataW Value} {l : List Nk} (h : (nodeP bm D).q w) (T : ToldR D l) {s : ByteArray} (hx : ¬ s ∈ keysN l) (hs : s.size ≤ maxLen) : (Instr.lookup 105 (.map (some bm)) (.string s) true).run Tryz.prog w = .ok (.tuple #[.pointer none, .bool false]) w := by
  obtain ⟨v, h1, h2⟩ := look_node h hs
  have hn : Maps.has D (keyS s) = false := (T.has s).trans (hasK_not.2 hx)
  rw [atKey_of_not_has hn] at h2
  rw [h1, hn]
  cases h2
  rfl
theorem toldR_nil : ToldR (.map []) [] := ⟨fun _ => rfl, fun x hx => (by cases hx), rfl, isMap_empty⟩
theorem has_snoc (l : List Nk) (x : Nk) (s : ByteArray) : hasK (keysN (l ++ [x])) s = (hasK (keysN l) s || decide (x.2 = s)) := by simp [hasK, keysN]
theorem toldR_put {D : DataW Value} {l l' : List Nk} {x : Nk} (T : ToldR D l) (hD : Tidy D) (hx : ¬ x.2 ∈ keysN l) (hp : l'.Perm (x :: l)) : ToldR (D.put (keyS x.2) (.held (ptr x.1))) l' := by
  have hk : ∀ s, hasK (keysN l') s = (decide (x.2 = s) || hasK (keysN l) s) := fun s => by
    have : (keysN l').any (fun y => decide (y = s)) = (keysN (x :: l)).any (fun y => decide (y = s)) := (hp.map Prod.snd).any_eq
    unfold hasK
    rw [this]
    simp [keysN]
  refine ⟨fun s => ?_, fun y hy z => ?_, ?_, T.isMap.put _ _⟩
  · rw [hk]
    by_cases e : x.2 = s
    · subst e
      rw [has_put_same T.isMap (keyS_lit _)]
      simp
    · rw [has_put_other (fun h => e (keyS_inj h).symm), T.has]
      simp [e]
  · rcases List.mem_cons.1 (hp.subset hy) with rfl | hy
    · exact atKey_put_same T.isMap (keyS_lit _) _ _
    · have : y.2 ≠ x.2 := fun e => hx (e ▸ List.mem_map_of_mem hy)
      rw [atKey_put_other (fun h => this (keyS_inj h))]
      exact T.find y hy z
  · rw [size_put hD, T.has, hasK_not.2 hx, hp.length_eq, T.size]
    rfl
theorem told_del {D : DataW Value} {l l' : List Nk} {x : Nk} (T : ToldR D l) (hD : Tidy D) (hn : (keysN l).Nodup) (hp : l.Perm (x :: l')) : ToldR (D.del (keyS x.2)) l' := by
  have hn' : (keysN (x :: l')).Nodup := (hp.map Prod.snd).nodup_iff.1 hn
  unfold keysN at hn'
  rw [List.map_cons, List.nodup_cons] at hn'
  have hk : ∀ s, hasK (keysN l) s = (decide (x.2 = s) || hasK (keysN l') s) := fun s => by
    have : (keysN l).any (fun y => decide (y = s)) = (keysN (x :: l')).any (fun y => decide (y = s)) := (hp.map Prod.snd).any_eq
    unfold hasK
    rw [this]
    simp [keysN]
  have hx : hasK (keysN l') x.2 = false := hasK_not.2 hn'.1
  refine ⟨fun s => ?_, fun y hy z => ?_, ?_, T.isMap.del _⟩
  · by_cases e : x.2 = s
    · subst e
      rw [has_del_same, hx]
    · rw [has_del_other (fun h => e (keyS_inj h).symm), T.has, hk]
      simp [e]
  · have : y.2 ≠ x.2 := fun e => hn'.1 (e ▸ List.mem_map_of_mem hy)
    rw [atKey_del_other (fun h => this (keyS_inj h))]
    exact T.find y (hp.symm.subset (List.mem_cons_of_mem _ hy)) z
  · have h1 := size_del (k := keyS x.2) hD
    have h2 := hp.length_eq
    rw [T.has, T.size, hk] at h1
    simp at h1 h2
    omega
theorem told_perm {D : DataW Value} {l l' : List Nk} (T : ToldR D l) (hp : l.Perm l') : ToldR D l' := by
  refine ⟨fun s => ?_, fun y hy => T.find y (hp.symm.subset hy), T.size.trans hp.length_eq, T.isMap⟩
  rw [T.has]
  exact (hp.map Prod.snd).any_eq
/-- The list at block b. -/
def lsPart (m : Int) (b bm : Nat) (D : DataW Value) (nd : Nat → Array Value) (tn sn : List Nk) : Part :=
  (boxP b (.cells (headR m bm tn sn) 110)).and ((nodesP (ids (tn ++ sn)) nd).and ((nodeP bm D).and Part.emp))
structure Fine (b : Nat) (D : DataW Value) (nd : Nat → Array Value) (tn sn : List Nk) (st : Sr) : Prop where
  lk : Lk b nd (ids (tn ++ sn)) tn sn
  told : ToldR D (tn ++ sn)
  trial : st.trial = keysN tn
  safe : st.safe = keysN sn
  short : ∀ x ∈ tn ++ sn, x.2.size ≤ maxLen
  good : GoodR st
  most : I64 st.most
theorem Fine.all {b : Nat} {D : DataW Value} {nd : Nat → Array Value} {tn sn : List Nk} {st : Sr} (h : Fine b D nd tn sn st) : allR st = keysN (tn ++ sn) := by
  unfold allR keysN
  rw [h.trial, h.safe, List.map_append]
theorem Fine.len {b : Nat} {D : DataW Value} {nd : Nat → Array Value} {tn sn : List Nk} {st : Sr} (h : Fine b D nd tn sn st) : (allR st).length = tn.length + sn.length := by
  rw [h.all]
  simp [keysN]
def Ls0 (w : World) (b : Nat) (own : Nat → Prop) (st : Sr) : Prop :=
  ∃ bm D nd tn sn, own = (lsPart (max st.most 0) b bm D nd tn sn).own ∧ (lsPart (max st.most 0) b bm D nd tn sn).q w ∧ (∀ k, own k → k < w.heap.size) ∧ Fine b D nd tn sn st
theorem Ls0.law {w : World} {b : Nat} {own : Nat → Prop} {st : Sr} (h : Ls0 w b own st) : ∃ bm D nd tn sn, Fine b D nd tn sn st ∧ LawF own w w (lsPart (max st.most 0) b bm D nd tn sn) := by
  obtain ⟨bm, D, nd, tn, sn, rfl, h2, h3, h4⟩ := h
  exact ⟨bm, D, nd, tn, sn, h4, LawF.start h2 h3⟩
theorem Ls0.of {F : Nat → Prop} {w0 w : World} {b bm : Nat} {D : DataW Value} {nd : Nat → Array Value} {tn sn : List Nk} {st : Sr} {m : Int} (hm : m = max st.most 0) (L : LawF F w0 w (lsPart m b bm D nd tn sn)) (G : Fine b D nd tn sn st) : ∃ own', Ls0 w b own' st ∧ Gr F w0 w ∧ Grew w0 F own' := by
  subst hm
  exact ⟨_, ⟨bm, D, nd, tn, sn, rfl, L.q, fun k hk => (L.lt k hk).1, G⟩, L.gr, L.grew⟩
theorem max_most {m : Int} (h : I64 m) : I64 (max m 0) := by unfold I64 at *; omega
/-- Fewer nodes are spoken of. -/
theorem LawF.fewer {F : Nat → Prop} {w0 w : World} {A R : Part} {I I' : List Nat} {nd : Nat → Array Value} (L : LawF F w0 w (A.and ((nodesP I nd).and R))) (h : ∀ k ∈ I', k ∈ I) : LawF F w0 w (A.and ((nodesP I' nd).and R)) :=
  (L.rot.weak1 (A' := nodesP I' nd) (fun hq k hk => hq k (h k hk)) fun k hk => h k hk).rot
/-- One node more. -/
theorem LawF.more {F : Nat → Prop} {w0 w : World} {A R : Part} {I : List Nat} {nd : Nat → Array Value} {k : Nat} {cs : Array Value} (L : LawF F w0 w ((boxP k (.cells cs 202)).and (A.and ((nodesP I nd).and R)))) : LawF F w0 w (A.and ((nodesP (k :: I) (fun j => if j = k then cs else nd j)).and R)) := by
  refine L.weak (fun h => ?_) fun j hj => ?_
  · obtain ⟨hb, ⟨hA, ⟨hN, hR, hNR⟩, hA2⟩, hx⟩ := h
    refine ⟨hA, ⟨fun j hj => ?_, hR, ?_⟩, ?_⟩
    · show _ = some (Obj.cells (if j = k then cs else nd j) _)
      by_cases e : j = k
      · subst e
        rw [if_pos rfl]
        exact hb
      · rw [if_neg e]
        exact hN j ((List.mem_cons.1 hj).resolve_left e)
    · intro j hj hr
      rcases List.mem_cons.1 hj with e | hj
      · exact hx j e (.inr (.inr hr))
      · exact hNR j hj hr
    · rintro j hA' (hj | hr)
      · rcases List.mem_cons.1 hj with e | hj
        · exact hx j e (.inl hA')
        · exact hA2 j hA' (.inl hj)
      · exact hA2 j hA' (.inr hr)
  · rcases hj with hj | hj | hj
    · exact .inr (.inl hj)
    · rcases List.mem_cons.1 hj with e | hj
      · exact .inl e
      · exact .inr (.inr (.inl hj))
    · exact .inr (.inr (.inr hj))
theorem LawF.map3 {F : Nat → Prop} {w0 w : World} {A B C R : Part} (L : LawF F w0 w (A.and (B.and (C.and R)))) : LawF F w0 w (C.and (A.and (B.and R))) := L.rin.rot
theorem LawF.unmap3 {F : Nat → Prop} {w0 w : World} {A B C R : Part} (L : LawF F w0 w (C.and (A.and (B.and R)))) : LawF F w0 w (A.and (B.and (C.and R))) := L.rot.rin
set_option maxHeartbeats 2000000 in
theorem newR_any (most : Int) (hm : I64 most) (w : World) : Calls Tryz.prog 24 #[.int .i64 most] w fun e w' => ∃ b own, e = .returned (.pointer (some ⟨b, 0, none⟩)) ∧ (∀ k, own k → w.heap.size ≤ k) ∧ Ls0 w' b own (freshR most) ∧ w.grownBy w' none := by
  have L1 := (LawF.bare w).mapNew (P := Tryz.prog) (k := 9) (R := heldElem)
  have L2 : LawF (fun _ => False) w (w.alloc (.map #[] 0)) ((nodesP [] (fun _ => #[])).and ((nodeP w.heap.size (.map [])).and Part.emp)) :=
    ⟨L1.gr, ⟨fun k hk => (by cases hk), L1.q, fun k hk => (by cases hk)⟩, fun k hk => hk.elim (fun h => by cases h) (L1.lt k)⟩
  have L3 := L2.box (.cells (headR (max most 0) w.heap.size [] []) 110)
  rw [World.size_alloc] at L3
  have hmm := @run_makeMap Tryz.prog
  have fin : ∀ m, m = max most 0 → LawF (fun _ => False) w ((w.alloc (.map #[] 0)).alloc (.cells (headR m w.heap.size [] []) 110)) (lsPart m (w.heap.size + 1) w.heap.size (.map []) (fun _ => #[]) [] []) → ∃ own, (∀ k, own k → w.heap.size ≤ k) ∧ Ls0 ((w.alloc (.map #[] 0)).alloc (.cells (headR m w.heap.size [] []) 110)) (w.heap.size + 1) own (freshR most) ∧ w.grownBy ((w.alloc (.map #[] 0)).alloc (.cells (headR m w.heap.size [] []) 110)) none := fun m em LL => by
    obtain ⟨own', h1, h2, h3⟩ := Ls0.of (st := freshR most) (tn := []) (sn := []) em LL ⟨⟨fun pre x post e => by simp at e, fun pre x post e => by simp at e, List.nodup_nil, fun y hy => by cases hy⟩, toldR_nil, rfl, rfl, fun x hx => (by cases hx), goodR_fresh most, hm⟩
    exact ⟨own', fun k hk => (h3 k hk).elim (fun h => h.elim) id, h1, h2.to (fun k h => h.elim)⟩
  by_cases h0 : 0 ≤ most
  · have ex : max most 0 = most := by omega
    rw [ex] at L3
    have HF := hide (fin most ex.symm L3)
    have EX := hide ex
    clear fin L1 L2 L3 ex
    go_enter Tryz.func24, Tryz.ntmps24
    go_wp2
    go_ret
    obtain ⟨own, h1, h2, h3⟩ := HF.out
    first | exact ⟨_, own, rfl, h1, h2, h3⟩ | (rw [EX.out]; exact ⟨_, own, rfl, h1, h2, h3⟩)
  · have ex : max most 0 = 0 := by omega
    have h1 : most < 0 := by omega
    rw [ex] at L3
    have HF := hide (fin 0 ex.symm L3)
    have EX := hide ex
    clear fin L1 L2 L3 ex h0
    go_enter Tryz.func24, Tryz.ntmps24
    go_wp2
    go_ret
    obtain ⟨own, h1, h2, h3⟩ := HF.out
    first | exact ⟨_, own, rfl, h1, h2, h3⟩ | (rw [EX.out]; exact ⟨_, own, rfl, h1, h2, h3⟩)
end Go.Proofs.YtkfeafmpaodagaaGreatDoor

namespace Go.Proofs.YtkfeafmpaodagaaGreatDoor
open Go.RowKit Go.Maps

section
variable {F : Nat → Prop} {w0 w : World} {b : Nat} {m : Int} {bm : Nat} {I : List Nat} {nd : Nat → Array Value} {tn sn A B : List Nk} {D : DataW Value} {st : Sr}
theorem stay_same {own : Nat → Prop} (h : Ls0 w b own st) : ∃ own', Ls0 w b own' st ∧ Gr own w w ∧ Grew w own own' := ⟨own, h, Gr.refl _ _, fun _ hk => .inl hk⟩
/-- A list's state out of its nodes. -/
theorem Lst.fine (H : Lst F w0 w b m bm I nd tn sn ((nodeP bm D).and Part.emp)) (hm : m = max st.most 0) (T : ToldR D (tn ++ sn)) (ht : st.trial = keysN tn) (hs : st.safe = keysN sn) (hk : ∀ x ∈ tn ++ sn, x.2.size ≤ maxLen) (hg : GoodR st) (hi : I64 st.most) : ∃ own', Ls0 w b own' st ∧ Gr F w0 w ∧ Grew w0 F own' := by
  have L : LawF F w0 w (lsPart m b bm D nd tn sn) := LawF.fewer H.row (fun k hk => by
    obtain ⟨y, hy, rfl⟩ := List.mem_map.1 hk
    exact H.lk.sub y hy)
  exact Ls0.of hm L ⟨⟨H.lk.t, H.lk.s, H.lk.nodup, fun y hy => List.mem_map_of_mem hy⟩, T, ht, hs, hk, hg, hi⟩
end
theorem Ls0.lst {w : World} {b : Nat} {own : Nat → Prop} {st : Sr} (h : Ls0 w b own st) (hn : (allR st).length ≤ maxLen) : ∃ bm D nd tn sn, Fine b D nd tn sn st ∧ Lst own w w b (max st.most 0) bm (ids (tn ++ sn)) nd tn sn ((nodeP bm D).and Part.emp) := by
  obtain ⟨bm, D, nd, tn, sn, G, L⟩ := h.law
  exact ⟨bm, D, nd, tn, sn, G, L, G.lk, by rw [← G.len]; exact hn⟩
theorem Fine.keysNodup {b : Nat} {D : DataW Value} {nd : Nat → Array Value} {tn sn : List Nk} {st : Sr} (h : Fine b D nd tn sn st) : (keysN (tn ++ sn)).Nodup := by
  rw [← h.all]
  exact h.good.nodup
/-- A new node beside those that there are. -/
theorem lk_more {b k : Nat} {nd : Nat → Array Value} {I : List Nat} {tn sn : List Nk} {s : ByteArray} (h : Lk b nd I tn sn) (hk : ∀ j ∈ I, j ≠ k) : Lk b (fun j => if j = k then #[.string s, .pointer none, .pointer none, .pointer none] else nd j) (k :: I) tn sn ∧ Loose (fun j => if j = k then #[.string s, .pointer none, .pointer none, .pointer none] else nd j) (k :: I) tn sn (k, s) :=
  ⟨⟨chain_same h.t fun y hy => if_neg (hk _ (h.sub y (List.mem_append_left _ hy))), chain_same h.s fun y hy => if_neg (hk _ (h.sub y (List.mem_append_right _ hy))), h.nodup, fun y hy => List.mem_cons_of_mem _ (h.sub y hy)⟩, ⟨⟨_, _, _, if_pos rfl⟩, List.mem_cons_self, fun y hy => hk _ (h.sub y hy)⟩⟩
set_option maxRecDepth 100000 in
set_option maxHeartbeats 4000000 in
theorem addR_any {w : World} {b : Nat} {own : Nat → Prop} {st : Sr} (h : Ls0 w b own st) (hn : (allR st).length < maxLen) (s : ByteArray) (hs : s.size ≤ maxLen) :
    Calls Tryz.prog 194 #[.pointer (some ⟨b, 0, none⟩), .string s] w fun e w' => e = .returned (.int .i64 (addErr st s)) ∧ ∃ own', Ls0 w' b own' (addR st s) ∧ Gr own w w' ∧ Grew w own own' := by
  obtain ⟨bm, D, nd, tn, sn, G, H⟩ := h.lst (Nat.le_of_lt hn)
  have c1 := H.row.head (i := 1) (v := .map (some bm)) rfl
  by_cases hk : s ∈ allR st
  · have hk' := hk
    rw [G.all] at hk'
    obtain ⟨x, hx, rfl⟩ := List.mem_map.1 hk'
    have r1 := lookR_in H.row.q.2.1.2.1.1 G.told hx hs
    have HS := hide (stay_same h)
    have HK := hide hk
    clear H G h hk' hk
    go_enter Tryz.func194, Tryz.ntmps194
    go_wp2
    go_ret
    obtain ⟨e1, e2⟩ := add_in HK.out
    rw [e1, e2]
    exact ⟨rfl, HS.out⟩
  · have hk' := hk
    rw [G.all] at hk'
    have r1 := look_out H.row.q.2.1.2.1.1 G.told hk' hs
    have L1 := (H.row.box (.cells #[.string s, .pointer none, .pointer none, .pointer none] 202)).more
    have c2 := RowAt.head L1 (i := 1) (v := .map (some bm)) rfl
    obtain ⟨lk1, lo1⟩ := lk_more (k := w.heap.size) (s := s) H.lk (fun j hj e => by have := (H.row.lt j (.inr (.inl hj))).1; omega)
    have hown : (w.alloc (.cells #[.string s, .pointer none, .pointer none, .pointer none] 202)).ownsMap Tryz.prog 9 heldElem bm (Maps.size D) D := L1.q.2.1.2.1.1
    have hsz : Maps.size D < maxLen := by rw [G.told.size, List.length_append, ← G.len]; exact hn
    have hlt : tn.length + sn.length < maxLen := by rw [← G.len]; exact hn
    have HT := hide (World.ownsMap.tidy hown keyed_str)
    have HG := hide G
    have HK := hide hk
    have HK' := hide hk'
    have HL := hide lk1
    have HO := hide lo1
    clear H G h hk hk' lk1 lo1
    go_enter Tryz.func194, Tryz.ntmps194
    go_wp2_with (first
      | (at_mapUpdate; refine wpList_mapUpdate_in _ rfl _ _ _ 105 rfl 9 106 keyed_str Tryz.underlying105 heldElem bm _ D rfl hown hsz _ (ptr w.heap.size) (keyS s) rfl rfl (keyOf_str hs) (.held (ptr w.heap.size)) [] rfl ?_; intro w2 hown2 hturn2; have L2 := (L1.map3.mapTurn hown2 hturn2).unmap3)
      | (go_at_call 133; refine (putT_is (x := (w.heap.size, s)) ⟨L2, HL.out, Nat.le_of_lt hlt⟩ HO.out hlt).mono ?_; rintro e w3 ⟨rfl, nd3, H3⟩))
    go_ret
    obtain ⟨e1, e2⟩ := add_out HK.out
    rw [e1, e2]
    refine ⟨rfl, ?_⟩
    have hp : (tn ++ [(w.heap.size, s)] ++ sn).Perm ((w.heap.size, s) :: (tn ++ sn)) := by
      rw [List.append_assoc]
      exact List.perm_middle
    refine H3.fine (st := ⟨st.most, st.trial ++ [s], st.safe⟩) rfl (toldR_put (x := (w.heap.size, s)) HG.out.told HT.out HK'.out hp) ?_ HG.out.safe ?_ ?_ HG.out.most
    · rw [HG.out.trial]
      simp [keysN]
    · intro y hy
      rcases List.mem_cons.1 (hp.subset hy) with rfl | hy
      · exact hs
      · exact HG.out.short y hy
    · have := goodR_add HG.out.good s
      rw [e2] at this
      exact this
def HitEnd (F : Nat → Prop) (w0 w' : World) (b : Nat) (m : Int) (bm : Nat) (I : List Nat) (nd' : Nat → Array Value) (tn sn : List Nk) (y : Nk) (R : Part) : Prop :=
  if m < ((y :: sn).length : Int) then Lst F w0 w' b m bm I nd' (tn ++ [y]) sn R else Lst F w0 w' b m bm I nd' tn (y :: sn) R
theorem hitEnd_yes {F : Nat → Prop} {w0 w' : World} {b : Nat} {m : Int} {bm : Nat} {I : List Nat} {nd' : Nat → Array Value} {tn sn : List Nk} {y : Nk} {R : Part} {n : Nat} (hn : (y :: sn).length = n) (hm : m < (n : Int)) (h : Lst F w0 w' b m bm I nd' (tn ++ [y]) ([] ++ sn) R) : HitEnd F w0 w' b m bm I nd' tn sn y R := by
  unfold HitEnd
  rw [hn, if_pos hm]
  exact h
theorem hitEnd_no {F : Nat → Prop} {w0 w' : World} {b : Nat} {m : Int} {bm : Nat} {I : List Nat} {nd' : Nat → Array Value} {tn sn : List Nk} {y : Nk} {R : Part} {n : Nat} (hn : (y :: sn).length = n) (hm : (n : Int) ≤ m) (h : Lst F w0 w' b m bm I nd' tn (y :: sn) R) : HitEnd F w0 w' b m bm I nd' tn sn y R := by
  unfold HitEnd
  rw [hn, if_neg (by omega)]
  exact h
set_option maxRecDepth 100000 in
set_option maxHeartbeats 4000000 in
theorem hit_walk {F : Nat → Prop} {w0 w : World} {b x bm : Nat} {m : Int} {I : List Nat} {tn sn : List Nk} {y : Nk} {R : Part} {s : ByteArray} (c1 : w.cell? ⟨b, 1, none⟩ = some (.map (some bm)))
    (r1 : (Instr.lookup 105 (.map (some bm)) (.string s) true).run Tryz.prog w = .ok (.tuple #[.pointer (some ⟨x, 0, none⟩), .bool true]) w)
    (hM : Calls Tryz.prog 93 #[.pointer (some ⟨x, 0, none⟩), .pointer (some ⟨b, 5, none⟩)] w fun e w' => e = .returned (.tuple #[]) ∧ ∃ nd', Lst F w0 w' b m bm I nd' tn (y :: sn) R) :
    Calls Tryz.prog 56 #[.pointer (some ⟨b, 0, none⟩), .string s] w fun e w' => e = .returned (.int .i64 0) ∧ ∃ nd', HitEnd F w0 w' b m bm I nd' tn sn y R := by
  obtain ⟨n, hn⟩ : ∃ n, (y :: sn).length = n := ⟨_, rfl⟩
  by_cases hlt : m < (n : Int)
  · have HC := hide hn
    go_enter Tryz.func56, Tryz.ntmps56
    go_upto_region 5 with (go_at_call 93; refine hM.mono ?_; rintro e w1 ⟨rfl, nd1, H1⟩)
    have d7 := H1.row.head (i := 7) (v := .int .i64 ((y :: sn).length : Nat)) rfl
    have d0 := H1.row.head (i := 0) (v := .int .i64 m) rfl
    rw [hn] at d7
    go_quiet (fail)
    clear d7 d0
    go_upto_region 6 with fail
    have H1' : Lst F w0 (w1.drewN nq) b m bm I nd1 tn (y :: sn) R := ⟨H1.row.drewN nq, H1.lk, H1.small⟩
    clear H1
    generalize w1.drewN nq = w2 at *
    have H2 : Lst F w0 w2.drew b m bm I nd1 tn (y :: sn) R := ⟨H1'.row.drew, H1'.lk, H1'.small⟩
    have d5 := H2.row.head (i := 5) (v := .pointer (some ⟨y.1, 0, none⟩)) rfl
    clear H1'
    go_region_with (go_at_call 93; refine (moveST_is (A := []) H2).mono ?_; rintro e w3 ⟨rfl, nd3, H3⟩)
    all_goals
      go_wp2
      go_ret
      exact ⟨rfl, nd3, hitEnd_yes HC.out hlt H3⟩
  · have HC := hide hn
    have hle : (n : Int) ≤ m := Int.not_lt.1 hlt
    clear hlt
    go_enter Tryz.func56, Tryz.ntmps56
    go_upto_region 5 with (go_at_call 93; refine hM.mono ?_; rintro e w1 ⟨rfl, nd1, H1⟩)
    have d7 := H1.row.head (i := 7) (v := .int .i64 ((y :: sn).length : Nat)) rfl
    have d0 := H1.row.head (i := 0) (v := .int .i64 m) rfl
    rw [hn] at d7
    go_quiet (fail)
    clear d7 d0
    go_wp2
    go_ret
    exact ⟨rfl, nd1, hitEnd_no HC.out hle ⟨H1.row.drewN _, H1.lk, H1.small⟩⟩
theorem keys_cut {A B sn : List Nk} {x : Nk} (h : (keysN (A ++ x :: B ++ sn)).Nodup) : without (keysN (A ++ x :: B)) x.2 = keysN (A ++ B) ∧ without (keysN sn) x.2 = keysN sn := by
  unfold keysN at h
  rw [List.map_append, List.nodup_append] at h
  exact ⟨keys_mid h.1, without_not fun hm => h.2.2 x.2 (by simp) x.2 hm rfl⟩
theorem keys_cut' {A B tn : List Nk} {x : Nk} (h : (keysN (tn ++ (A ++ x :: B))).Nodup) : without (keysN (A ++ x :: B)) x.2 = keysN (A ++ B) ∧ without (keysN tn) x.2 = keysN tn := by
  unfold keysN at h
  rw [List.map_append, List.nodup_append] at h
  exact ⟨keys_mid h.2.1, without_not fun hm => h.2.2 x.2 hm x.2 (by simp) rfl⟩
/-- Behind a hit: the state, whichever row the key was in. -/
theorem hit_end {F : Nat → Prop} {w0 w : World} {b bm : Nat} {I : List Nat} {tn sn : List Nk} {y : Nk} {D : DataW Value} {st : Sr} {nd : Nat → Array Value} {l : List Nk} (hl : (tn ++ y :: sn).Perm l) (T : ToldR D l) (hk : ∀ x ∈ l, x.2.size ≤ maxLen) (hi : I64 st.most) {s : ByteArray} (hg : GoodR (hitR st s)) (e : hitR st s = spill ⟨st.most, keysN tn, keysN (y :: sn)⟩)
    (h : HitEnd F w0 w b (max st.most 0) bm I nd tn sn y ((nodeP bm D).and Part.emp)) : ∃ own', Ls0 w b own' (hitR st s) ∧ Gr F w0 w ∧ Grew w0 F own' := by
  unfold HitEnd at h
  have hm := most_hit st s
  have hlen : ((keysN (y :: sn)).length : Int) = ((y :: sn).length : Int) := by simp [keysN]
  by_cases hc : max st.most 0 < ((y :: sn).length : Int)
  · rw [if_pos hc] at h
    have e2 : hitR st s = ⟨st.most, keysN (tn ++ [y]), keysN sn⟩ := by
      rw [e]
      unfold spill
      rw [if_pos (show st.most < ((keysN (y :: sn)).length : Int) by rw [hlen]; omega)]
      simp [keysN]
    have hp : l.Perm (tn ++ [y] ++ sn) := by
      refine hl.symm.trans ?_
      rw [List.append_assoc]
      exact List.Perm.refl _
    refine h.fine (by rw [hm]) (told_perm T hp) (by rw [e2]) (by rw [e2]) (fun x hx => hk x (hp.symm.subset hx)) hg (by rw [hm]; exact hi)
  · rw [if_neg hc] at h
    have e2 : hitR st s = ⟨st.most, keysN tn, keysN (y :: sn)⟩ := by
      rw [e]
      unfold spill
      have h1 : 1 ≤ ((y :: sn).length : Int) := by simp; omega
      rw [if_neg (show ¬ st.most < ((keysN (y :: sn)).length : Int) by rw [hlen]; omega)]
    refine h.fine (by rw [hm]) (told_perm T hl.symm) (by rw [e2]) (by rw [e2]) (fun x hx => hk x (hl.subset hx)) hg (by rw [hm]; exact hi)
theorem snoc_cons (l : List Nk) (x : Nk) : ∃ y r, l ++ [x] = y :: r := by
  cases l with
  | nil => exact ⟨x, [], rfl⟩
  | cons a l => exact ⟨a, l ++ [x], rfl⟩
theorem hitR_any {w : World} {b : Nat} {own : Nat → Prop} {st : Sr} (h : Ls0 w b own st) (hn : (allR st).length ≤ maxLen) (s : ByteArray) (hs : s.size ≤ maxLen) :
    Calls Tryz.prog 56 #[.pointer (some ⟨b, 0, none⟩), .string s] w fun e w' => e = .returned (.int .i64 (remErr st s)) ∧ ∃ own', Ls0 w' b own' (hitR st s) ∧ Gr own w w' ∧ Grew w own own' := by
  obtain ⟨bm, D, nd, tn, sn, G, H⟩ := h.lst hn
  have c1 := H.row.head (i := 1) (v := .map (some bm)) rfl
  by_cases hk : s ∈ allR st
  · have hk' := hk
    rw [G.all] at hk'
    obtain ⟨x, hx, rfl⟩ := List.mem_map.1 hk'
    have r1 := lookR_in H.row.q.2.1.2.1.1 G.told hx hs
    have hg := good_hit G.good x.2
    have hnd := G.keysNodup
    have eH : hitR st x.2 = spill ⟨st.most, without st.trial x.2, without st.safe x.2 ++ [x.2]⟩ := by
      unfold hitR
      rw [if_pos (hasK_iff.2 hk)]
    rw [G.trial, G.safe] at eH
    rw [rem_in hk]
    rcases List.mem_append.1 hx with ht | ht
    · obtain ⟨A, B, rfl⟩ := List.append_of_mem ht
      obtain ⟨y, r, er⟩ := snoc_cons sn x
      have hM := moveTS_is H
      rw [er] at hM
      obtain ⟨k1, k2⟩ := keys_cut hnd
      have e3 : keysN sn ++ [x.2] = keysN (y :: r) := by rw [← er]; simp [keysN]
      rw [k1, k2, e3] at eH
      have hp : (A ++ B ++ y :: r).Perm (A ++ x :: B ++ sn) := by
        rw [← er]
        have h1 : (A ++ B ++ (sn ++ [x])).Perm (x :: (A ++ B ++ sn)) := by rw [← List.append_assoc]; exact List.perm_append_comm
        have h2 : (A ++ x :: B ++ sn).Perm (x :: (A ++ B ++ sn)) := by simp
        exact h1.trans h2.symm
      exact (hit_walk c1 r1 hM).mono fun e w' ⟨he, nd', h'⟩ => ⟨he, hit_end hp G.told G.short G.most hg eH h'⟩
    · obtain ⟨A, B, rfl⟩ := List.append_of_mem ht
      obtain ⟨y, r, er⟩ := snoc_cons (A ++ B) x
      have hM := moveSS_is H
      rw [er] at hM
      obtain ⟨k1, k2⟩ := keys_cut' hnd
      have e3 : keysN (A ++ B) ++ [x.2] = keysN (y :: r) := by rw [← er]; simp [keysN]
      rw [k1, k2, e3] at eH
      have hp : (tn ++ y :: r).Perm (tn ++ (A ++ x :: B)) := by
        rw [← er]
        have h1 : (A ++ B ++ [x]).Perm (x :: (A ++ B)) := List.perm_append_comm
        exact List.Perm.append_left tn (h1.trans List.perm_middle.symm)
      exact (hit_walk c1 r1 hM).mono fun e w' ⟨he, nd', h'⟩ => ⟨he, hit_end hp G.told G.short G.most hg eH h'⟩
  · have hk' := hk
    rw [G.all] at hk'
    have r1 := look_out H.row.q.2.1.2.1.1 G.told hk' hs
    have HS := hide (stay_same h)
    rw [(rem_out hk).1, hit_out hk]
    clear H G h hk' hk
    go_enter Tryz.func56, Tryz.ntmps56
    go_wp2
    go_ret
    exact ⟨rfl, HS.out⟩
set_option maxRecDepth 100000 in
set_option maxHeartbeats 4000000 in
theorem rem_walk {F : Nat → Prop} {w0 w : World} {b x bm off : Nat} {m : Int} {I : List Nat} {tn sn : List Nk} {D : DataW Value} {s : ByteArray} (hs : s.size ≤ maxLen) (c1 : w.cell? ⟨b, 1, none⟩ = some (.map (some bm))) (c2 : w.cell? ⟨x, 1, none⟩ = some (.pointer (some ⟨b, off, none⟩)))
    (r1 : (Instr.lookup 105 (.map (some bm)) (.string s) true).run Tryz.prog w = .ok (.tuple #[.pointer (some ⟨x, 0, none⟩), .bool true]) w)
    (hM : Calls Tryz.prog 132 #[.pointer (some ⟨b, off, none⟩), .pointer (some ⟨x, 0, none⟩)] w fun e w' => e = .returned (.tuple #[]) ∧ ∃ nd', Lst F w0 w' b m bm I nd' tn sn ((nodeP bm D).and Part.emp)) :
    Calls Tryz.prog 142 #[.pointer (some ⟨b, 0, none⟩), .string s] w fun e w' => e = .returned (.int .i64 0) ∧ ∃ nd', Lst F w0 w' b m bm I nd' tn sn ((nodeP bm (D.del (keyS s))).and Part.emp) := by
  go_enter Tryz.func142, Tryz.ntmps142
  go_wp2_with (first
    | (go_at_call 132; refine hM.mono ?_; rintro e w1 ⟨rfl, nd1, H1⟩; have c3 := H1.row.head (i := 1) (v := .map (some bm)) rfl; have hown : w1.ownsMap Tryz.prog 9 heldElem bm (Maps.size D) D := H1.row.q.2.1.2.1.1)
    | (at_delete; refine wpList_delete_own _ rfl _ _ 105 9 rfl 106 keyed_str Tryz.underlying105 _ bm _ D rfl hown _ _ rfl (keyOf_str hs) ?_; intro w2 hown2 hturn2; have L2 := (H1.row.map3.mapTurn hown2 hturn2).unmap3))
  go_ret
  exact ⟨rfl, nd1, L2, H1.lk, H1.small⟩
theorem remR_any {w : World} {b : Nat} {own : Nat → Prop} {st : Sr} (h : Ls0 w b own st) (hn : (allR st).length ≤ maxLen) (s : ByteArray) (hs : s.size ≤ maxLen) :
    Calls Tryz.prog 142 #[.pointer (some ⟨b, 0, none⟩), .string s] w fun e w' => e = .returned (.int .i64 (remErr st s)) ∧ ∃ own', Ls0 w' b own' (remR st s) ∧ Gr own w w' ∧ Grew w own own' := by
  obtain ⟨bm, D, nd, tn, sn, G, H⟩ := h.lst hn
  have c1 := H.row.head (i := 1) (v := .map (some bm)) rfl
  by_cases hk : s ∈ allR st
  · have hk' := hk
    rw [G.all] at hk'
    obtain ⟨x, hx, rfl⟩ := List.mem_map.1 hk'
    have r1 := lookR_in H.row.q.2.1.2.1.1 G.told hx hs
    have hg := good_rem G.good x.2
    have hnd := G.keysNodup
    have hT := World.ownsMap.tidy (show w.ownsMap Tryz.prog 9 heldElem bm (Maps.size D) D from H.row.q.2.1.2.1.1) keyed_str
    rw [rem_in hk]
    rcases List.mem_append.1 hx with ht | ht
    · obtain ⟨A, B, rfl⟩ := List.append_of_mem ht
      obtain ⟨k1, k2⟩ := keys_cut hnd
      have hp : (A ++ x :: B ++ sn).Perm (x :: (A ++ B ++ sn)) := by simp
      refine (rem_walk hs c1 (H.row.node (H.lk.sub x (by simp)) (by rw [H.lk.t A x B rfl]; rfl)) r1 ((takeT_is H).mono fun e w' ⟨he, nd', h1, _⟩ => ⟨he, nd', h1⟩)).mono fun e w' ⟨he, nd', h'⟩ => ⟨he, ?_⟩
      exact h'.fine (st := remR st x.2) rfl (told_del G.told hT hnd hp) (by unfold remR; rw [G.trial]; exact k1) (by unfold remR; rw [G.safe]; exact k2) (fun y hy => G.short y (hp.symm.subset (List.mem_cons_of_mem _ hy))) hg G.most
    · obtain ⟨A, B, rfl⟩ := List.append_of_mem ht
      obtain ⟨k1, k2⟩ := keys_cut' hnd
      have hp : (tn ++ (A ++ x :: B)).Perm (x :: (tn ++ (A ++ B))) := by
        rw [← List.append_assoc, ← List.append_assoc]
        exact List.perm_middle
      refine (rem_walk hs c1 (H.row.node (H.lk.sub x (by simp)) (by rw [H.lk.s A x B rfl]; rfl)) r1 ((takeS_is H).mono fun e w' ⟨he, nd', h1, _⟩ => ⟨he, nd', h1⟩)).mono fun e w' ⟨he, nd', h'⟩ => ⟨he, ?_⟩
      exact h'.fine (st := remR st x.2) rfl (told_del G.told hT hnd hp) (by unfold remR; rw [G.trial]; exact k2) (by unfold remR; rw [G.safe]; exact k1) (fun y hy => G.short y (hp.symm.subset (List.mem_cons_of_mem _ hy))) hg G.most
  · have hk' := hk
    rw [G.all] at hk'
    have r1 := look_out H.row.q.2.1.2.1.1 G.told hk' hs
    have HS := hide (stay_same h)
    rw [(rem_out hk).1, (rem_out hk).2]
    clear H G h hk' hk
    go_enter Tryz.func142, Tryz.ntmps142
    go_wp2
    go_ret
    exact ⟨rfl, HS.out⟩
end Go.Proofs.YtkfeafmpaodagaaGreatDoor
