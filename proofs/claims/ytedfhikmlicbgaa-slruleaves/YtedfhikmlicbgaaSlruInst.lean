/- The contracts of package slru, out of the program's own text: New, Add, Hit, Remove, Len, Protected. Conditions: none. -/
import Derived.Test.YtedfhikmlicbgaaSlruMove
import Derived.Test.YtedfhikmlicbgaaSlruCon
import Derived.StringKeys
namespace Go.Proofs.Ytedfhikmlicbgaa
open Go.RowKit Go.Maps

/-- Elements as they stand. -/
def heldElem (v : Value) : Option (DataW Value × List MemPlace) := some (.held v, [])
def keyS (s : ByteArray) : Lit := .string s.data.toList
theorem keyed_str : Keyed Try.prog 9 := string_keyed Try.underlying9
theorem keyOf_str {s : ByteArray} (h : s.size ≤ maxLen) : keyOf Try.prog 9 (.string s) = some (keyS s) := Go.WideMaps.keyOf_string_mk Try.underlying9 h
theorem keyS_inj {s t : ByteArray} (h : keyS s = keyS t) : s = t := by
  unfold keyS at h
  cases s; cases t
  simp at h
  rw [h]
theorem keyS_lit (s : ByteArray) : WideAt.IsKeyLit (keyS s) := by unfold keyS; trivial
theorem zero_node (w : World) : (zeroValue 48).run Try.prog w = .ok (.pointer none) w := by kernel_rfl
abbrev nodeP (bm : Nat) (D : DataW Value) : Part := mapP Try.prog 9 heldElem bm D
def ptr (k : Nat) : Value := .pointer (some ⟨k, 0, none⟩)
/-- What the map has. -/
structure ToldR (D : DataW Value) (l : List Nk) : Prop where
  has : ∀ s : ByteArray, Maps.has D (keyS s) = hasK (keysN l) s
  find : ∀ x ∈ l, ∀ z, D.atKey (keyS x.2) z = .held (ptr x.1)
  size : Maps.size D = l.length
  isMap : IsMap D
theorem look_node {w : World} {bm : Nat} {D : DataW Value} {s : ByteArray} (h : (nodeP bm D).q w) (hs : s.size ≤ maxLen) : ∃ v, (Instr.lookup 47 (.map (some bm)) (.string s) true).run Try.prog w = .ok (.tuple #[v, .bool (Maps.has D (keyS s))]) w ∧ D.atKey (keyS s) (.held (.pointer none)) = .held v := by
  have h' : w.ownsMap Try.prog 9 heldElem bm (Maps.size D) D := h
  obtain ⟨v, ps, hrun, hv⟩ := h'.look_ok keyed_str Try.underlying47 (zero_node w) (zd := .held (.pointer none)) (zp := []) rfl (keyOf_str hs)
  refine ⟨v, hrun, ?_⟩
  unfold heldElem at hv
  simp at hv
  exact hv.1.symm
theorem look_in {w : World} {bm : Nat} {D : DataW Value} {l : List Nk} (h : (nodeP bm D).q w) (T : ToldR D l) {x : Nk} (hx : x ∈ l) (hs : x.2.size ≤ maxLen) : (Instr.lookup 47 (.map (some bm)) (.string x.2) true).run Try.prog w = .ok (.tuple #[.pointer (some ⟨x.1, 0, none⟩), .bool true]) w := by
  obtain ⟨v, h1, h2⟩ := look_node h hs
  rw [T.find x hx] at h2
  rw [h1, T.has, hasK_iff.2 (List.mem_map_of_mem hx)]
  cases h2
  rfl
theorem look_out {w : World} {bm : Nat} {D : DataW Value} {l : List Nk} (h : (nodeP bm D).q w) (T : ToldR D l) {s : ByteArray} (hx : ¬ s ∈ keysN l) (hs : s.size ≤ maxLen) : (Instr.lookup 47 (.map (some bm)) (.string s) true).run Try.prog w = .ok (.tuple #[.pointer none, .bool false]) w := by
  obtain ⟨v, h1, h2⟩ := look_node h hs
  have hn : Maps.has D (keyS s) = false := (T.has s).trans (hasK_not.2 hx)
  rw [atKey_of_not_has hn] at h2
  rw [h1, hn]
  cases h2
  rfl
theorem told_nil : ToldR (.map []) [] := ⟨fun _ => rfl, fun x hx => (by cases hx), rfl, isMap_empty⟩
theorem has_snoc (l : List Nk) (x : Nk) (s : ByteArray) : hasK (keysN (l ++ [x])) s = (hasK (keysN l) s || decide (x.2 = s)) := by simp [hasK, keysN]
theorem told_put {D : DataW Value} {l l' : List Nk} {x : Nk} (T : ToldR D l) (hD : Tidy D) (hx : ¬ x.2 ∈ keysN l) (hp : l'.Perm (x :: l)) : ToldR (D.put (keyS x.2) (.held (ptr x.1))) l' := by
  have hk : ∀ s, hasK (keysN l') s = (decide (x.2 = s) || hasK (keysN l) s) := fun s => by
    have : (keysN l').any (fun y => decide (y = s)) = (keysN (x :: l)).any (fun y => decide (y = s)) := (hp.map Prod.snd).any_eq
    unfold hasK
    rw [this]
    simp [keysN]
  refine ⟨fun s => ?_, fun y hy z => ?_, ?_, T.isMap.put _ _⟩
  · rw [hk]
    by_cases e : x.2 = s
    · subst e
      rw [has_put_same T.isMap (keyS_lit _)]
      simp
    · rw [has_put_other (fun h => e (keyS_inj h).symm), T.has]
      simp [e]
  · rcases List.mem_cons.1 (hp.subset hy) with rfl | hy
    · exact atKey_put_same T.isMap (keyS_lit _) _ _
    · have : y.2 ≠ x.2 := fun e => hx (e ▸ List.mem_map_of_mem hy)
      rw [atKey_put_other (fun h => this (keyS_inj h))]
      exact T.find y hy z
  · rw [size_put hD, T.has, hasK_not.2 hx, hp.length_eq, T.size]
    rfl
theorem told_del {D : DataW Value} {l l' : List Nk} {x : Nk} (T : ToldR D l) (hD : Tidy D) (hn : (keysN l).Nodup) (hp : l.Perm (x :: l')) : ToldR (D.del (keyS x.2)) l' := by
  have hn' : (keysN (x :: l')).Nodup := (hp.map Prod.snd).nodup_iff.1 hn
  unfold keysN at hn'
  rw [List.map_cons, List.nodup_cons] at hn'
  have hk : ∀ s, hasK (keysN l) s = (decide (x.2 = s) || hasK (keysN l') s) := fun s => by
    have : (keysN l).any (fun y => decide (y = s)) = (keysN (x :: l')).any (fun y => decide (y = s)) := (hp.map Prod.snd).any_eq
    unfold hasK
    rw [this]
    simp [keysN]
  have hx : hasK (keysN l') x.2 = false := hasK_not.2 hn'.1
  refine ⟨fun s => ?_, fun y hy z => ?_, ?_, T.isMap.del _⟩
  · by_cases e : x.2 = s
    · subst e
      rw [has_del_same, hx]
    · rw [has_del_other (fun h => e (keyS_inj h).symm), T.has, hk]
      simp [e]
  · have : y.2 ≠ x.2 := fun e => hn'.1 (e ▸ List.mem_map_of_mem hy)
    rw [atKey_del_other (fun h => this (keyS_inj h))]
    exact T.find y (hp.symm.subset (List.mem_cons_of_mem _ hy)) z
  · have h1 := size_del (k := keyS x.2) hD
    have h2 := hp.length_eq
    rw [T.has, T.size, hk] at h1
    simp at h1 h2
    omega
theorem told_perm {D : DataW Value} {l l' : List Nk} (T : ToldR D l) (hp : l.Perm l') : ToldR D l' := by
  refine ⟨fun s => ?_, fun y hy => T.find y (hp.symm.subset hy), T.size.trans hp.length_eq, T.isMap⟩
  rw [T.has]
  exact (hp.map Prod.snd).any_eq
/-- The list at block b. -/
def lsPart (m : Int) (b bm : Nat) (D : DataW Value) (nd : Nat → Array Value) (tn sn : List Nk) : Part :=
  (boxP b (.cells (headR m bm tn sn) 52)).and ((nodesP (ids (tn ++ sn)) nd).and ((nodeP bm D).and Part.emp))
structure Fine (b : Nat) (D : DataW Value) (nd : Nat → Array Value) (tn sn : List Nk) (st : Sr) : Prop where
  lk : Lk b nd (ids (tn ++ sn)) tn sn
  told : ToldR D (tn ++ sn)
  trial : st.trial = keysN tn
  safe : st.safe = keysN sn
  short : ∀ x ∈ tn ++ sn, x.2.size ≤ maxLen
  good : GoodR st
  most : I64 st.most
theorem Fine.all {b : Nat} {D : DataW Value} {nd : Nat → Array Value} {tn sn : List Nk} {st : Sr} (h : Fine b D nd tn sn st) : allR st = keysN (tn ++ sn) := by
  unfold allR keysN
  rw [h.trial, h.safe, List.map_append]
theorem Fine.len {b : Nat} {D : DataW Value} {nd : Nat → Array Value} {tn sn : List Nk} {st : Sr} (h : Fine b D nd tn sn st) : (allR st).length = tn.length + sn.length := by
  rw [h.all]
  simp [keysN]
def Ls0 (w : World) (b : Nat) (own : Nat → Prop) (st : Sr) : Prop :=
  ∃ bm D nd tn sn, own = (lsPart (max st.most 0) b bm D nd tn sn).own ∧ (lsPart (max st.most 0) b bm D nd tn sn).q w ∧ (∀ k, own k → k < w.heap.size) ∧ Fine b D nd tn sn st
theorem Ls0.law {w : World} {b : Nat} {own : Nat → Prop} {st : Sr} (h : Ls0 w b own st) : ∃ bm D nd tn sn, Fine b D nd tn sn st ∧ LawF own w w (lsPart (max st.most 0) b bm D nd tn sn) := by
  obtain ⟨bm, D, nd, tn, sn, rfl, h2, h3, h4⟩ := h
  exact ⟨bm, D, nd, tn, sn, h4, LawF.start h2 h3⟩
theorem Ls0.of {F : Nat → Prop} {w0 w : World} {b bm : Nat} {D : DataW Value} {nd : Nat → Array Value} {tn sn : List Nk} {st : Sr} {m : Int} (hm : m = max st.most 0) (L : LawF F w0 w (lsPart m b bm D nd tn sn)) (G : Fine b D nd tn sn st) : ∃ own', Ls0 w b own' st ∧ Gr F w0 w ∧ Grew w0 F own' := by
  subst hm
  exact ⟨_, ⟨bm, D, nd, tn, sn, rfl, L.q, fun k hk => (L.lt k hk).1, G⟩, L.gr, L.grew⟩
theorem max_most {m : Int} (h : I64 m) : I64 (max m 0) := by unfold I64 at *; omega
/-- Fewer nodes are spoken of. -/
theorem LawF.fewer {F : Nat → Prop} {w0 w : World} {A R : Part} {I I' : List Nat} {nd : Nat → Array Value} (L : LawF F w0 w (A.and ((nodesP I nd).and R))) (h : ∀ k ∈ I', k ∈ I) : LawF F w0 w (A.and ((nodesP I' nd).and R)) :=
  (L.rot.weak1 (A' := nodesP I' nd) (fun hq k hk => hq k (h k hk)) fun k hk => h k hk).rot
/-- One node more. -/
theorem LawF.more {F : Nat → Prop} {w0 w : World} {A R : Part} {I : List Nat} {nd : Nat → Array Value} {k : Nat} {cs : Array Value} (L : LawF F w0 w ((boxP k (.cells cs 56)).and (A.and ((nodesP I nd).and R)))) : LawF F w0 w (A.and ((nodesP (k :: I) (fun j => if j = k then cs else nd j)).and R)) := by
  refine L.weak (fun h => ?_) fun j hj => ?_
  · obtain ⟨hb, ⟨hA, ⟨hN, hR, hNR⟩, hA2⟩, hx⟩ := h
    refine ⟨hA, ⟨fun j hj => ?_, hR, ?_⟩, ?_⟩
    · show _ = some (Obj.cells (if j = k then cs else nd j) _)
      by_cases e : j = k
      · subst e
        rw [if_pos rfl]
        exact hb
      · rw [if_neg e]
        exact hN j ((List.mem_cons.1 hj).resolve_left e)
    · intro j hj hr
      rcases List.mem_cons.1 hj with e | hj
      · exact hx j e (.inr (.inr hr))
      · exact hNR j hj hr
    · rintro j hA' (hj | hr)
      · rcases List.mem_cons.1 hj with e | hj
        · exact hx j e (.inl hA')
        · exact hA2 j hA' (.inl hj)
      · exact hA2 j hA' (.inr hr)
  · rcases hj with hj | hj | hj
    · exact .inr (.inl hj)
    · rcases List.mem_cons.1 hj with e | hj
      · exact .inl e
      · exact .inr (.inr (.inl hj))
    · exact .inr (.inr (.inr hj))
theorem LawF.map3 {F : Nat → Prop} {w0 w : World} {A B C R : Part} (L : LawF F w0 w (A.and (B.and (C.and R)))) : LawF F w0 w (C.and (A.and (B.and R))) := L.rin.rot
theorem LawF.unmap3 {F : Nat → Prop} {w0 w : World} {A B C R : Part} (L : LawF F w0 w (C.and (A.and (B.and R)))) : LawF F w0 w (A.and (B.and (C.and R))) := L.rot.rin
set_option maxHeartbeats 2000000 in
theorem newR_any (most : Int) (hm : I64 most) (w : World) : Calls Try.prog 11 #[.int .i64 most] w fun e w' => ∃ b own, e = .returned (.pointer (some ⟨b, 0, none⟩)) ∧ (∀ k, own k → w.heap.size ≤ k) ∧ Ls0 w' b own (freshR most) ∧ w.grownBy w' none := by
  have L1 := (LawF.bare w).mapNew (P := Try.prog) (k := 9) (R := heldElem)
  have L2 : LawF (fun _ => False) w (w.alloc (.map #[] 0)) ((nodesP [] (fun _ => #[])).and ((nodeP w.heap.size (.map [])).and Part.emp)) :=
    ⟨L1.gr, ⟨fun k hk => (by cases hk), L1.q, fun k hk => (by cases hk)⟩, fun k hk => hk.elim (fun h => by cases h) (L1.lt k)⟩
  have L3 := L2.box (.cells (headR (max most 0) w.heap.size [] []) 52)
  rw [World.size_alloc] at L3
  have hmm := @run_makeMap Try.prog
  have fin : ∀ m, m = max most 0 → LawF (fun _ => False) w ((w.alloc (.map #[] 0)).alloc (.cells (headR m w.heap.size [] []) 52)) (lsPart m (w.heap.size + 1) w.heap.size (.map []) (fun _ => #[]) [] []) → ∃ own, (∀ k, own k → w.heap.size ≤ k) ∧ Ls0 ((w.alloc (.map #[] 0)).alloc (.cells (headR m w.heap.size [] []) 52)) (w.heap.size + 1) own (freshR most) ∧ w.grownBy ((w.alloc (.map #[] 0)).alloc (.cells (headR m w.heap.size [] []) 52)) none := fun m em LL => by
    obtain ⟨own', h1, h2, h3⟩ := Ls0.of (st := freshR most) (tn := []) (sn := []) em LL ⟨⟨fun pre x post e => by simp at e, fun pre x post e => by simp at e, List.nodup_nil, fun y hy => by cases hy⟩, told_nil, rfl, rfl, fun x hx => (by cases hx), good_fresh most, hm⟩
    exact ⟨own', fun k hk => (h3 k hk).elim (fun h => h.elim) id, h1, h2.to (fun k h => h.elim)⟩
  by_cases h0 : 0 ≤ most
  · have ex : max most 0 = most := by omega
    rw [ex] at L3
    have HF := hide (fin most ex.symm L3)
    clear fin L1 L2 L3 ex
    go_enter Try.func11, Try.ntmps11
    go_wp2
    go_ret
    obtain ⟨own, h1, h2, h3⟩ := HF.out
    exact ⟨_, own, rfl, h1, h2, h3⟩
  · have ex : max most 0 = 0 := by omega
    have h1 : most < 0 := by omega
    rw [ex] at L3
    have HF := hide (fin 0 ex.symm L3)
    clear fin L1 L2 L3 ex h0
    go_enter Try.func11, Try.ntmps11
    go_wp2
    go_ret
    obtain ⟨own, h1, h2, h3⟩ := HF.out
    exact ⟨_, own, rfl, h1, h2, h3⟩
set_option maxHeartbeats 2000000 in
theorem lenR_any {w : World} {b : Nat} {own : Nat → Prop} {st : Sr} (h : Ls0 w b own st) : Calls Try.prog 23 #[.pointer (some ⟨b, 0, none⟩)] w fun e w' => e = .returned (.int .i64 (allR st).length) ∧ w' = w := by
  obtain ⟨bm, D, nd, tn, sn, G, L⟩ := h.law
  have c1 := RowAt.head L (i := 1) (v := .map (some bm)) rfl
  have hown : w.ownsMap Try.prog 9 heldElem bm (Maps.size D) D := L.q.2.1.2.1.1
  have HS : Hid ((Maps.size D : Int) = ((allR st).length : Int)) := by
    show _ = _
    rw [G.told.size, G.len, List.length_append]
  go_enter Try.func23, Try.ntmps23
  go_wp2_with (at_len; refine wpList_len_own _ rfl _ 47 rfl 9 48 Try.underlying47 _ bm _ D rfl hown ?_)
  go_ret
  exact ⟨by rw [← HS.out]; rfl, rfl⟩
set_option maxHeartbeats 2000000 in
theorem protR_any {w : World} {b : Nat} {own : Nat → Prop} {st : Sr} (h : Ls0 w b own st) : Calls Try.prog 24 #[.pointer (some ⟨b, 0, none⟩)] w fun e w' => e = .returned (.int .i64 st.safe.length) ∧ w' = w := by
  obtain ⟨bm, D, nd, tn, sn, G, L⟩ := h.law
  have c1 := RowAt.head L (i := 7) (v := .int .i64 (sn.length : Nat)) rfl
  have HS : Hid ((sn.length : Int) = (st.safe.length : Int)) := by
    show _ = _
    rw [G.safe, List.length_map]
  go_enter Try.func24, Try.ntmps24
  go_wp2
  go_ret
  exact ⟨by rw [← HS.out]; rfl, rfl⟩
end Go.Proofs.Ytedfhikmlicbgaa
