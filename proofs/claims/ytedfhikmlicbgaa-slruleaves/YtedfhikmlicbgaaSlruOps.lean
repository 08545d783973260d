/- The contracts of package slru: Add, Hit, Remove. Conditions: none. -/
import Derived.Test.YtedfhikmlicbgaaSlruInst
namespace Go.Proofs.Ytedfhikmlicbgaa
open Go.RowKit Go.Maps

section
variable {F : Nat → Prop} {w0 w : World} {b : Nat} {m : Int} {bm : Nat} {I : List Nat} {nd : Nat → Array Value} {tn sn A B : List Nk} {D : DataW Value} {st : Sr}
theorem stay_same {own : Nat → Prop} (h : Ls0 w b own st) : ∃ own', Ls0 w b own' st ∧ Gr own w w ∧ Grew w own own' := ⟨own, h, Gr.refl _ _, fun _ hk => .inl hk⟩
/-- A list's state out of its nodes. -/
theorem Lst.fine (H : Lst F w0 w b m bm I nd tn sn ((nodeP bm D).and Part.emp)) (hm : m = max st.most 0) (T : ToldR D (tn ++ sn)) (ht : st.trial = keysN tn) (hs : st.safe = keysN sn) (hk : ∀ x ∈ tn ++ sn, x.2.size ≤ maxLen) (hg : GoodR st) (hi : I64 st.most) : ∃ own', Ls0 w b own' st ∧ Gr F w0 w ∧ Grew w0 F own' := by
  have L : LawF F w0 w (lsPart m b bm D nd tn sn) := LawF.fewer H.row (fun k hk => by
    obtain ⟨y, hy, rfl⟩ := List.mem_map.1 hk
    exact H.lk.sub y hy)
  exact Ls0.of hm L ⟨⟨H.lk.t, H.lk.s, H.lk.nodup, fun y hy => List.mem_map_of_mem hy⟩, T, ht, hs, hk, hg, hi⟩
end
theorem Ls0.lst {w : World} {b : Nat} {own : Nat → Prop} {st : Sr} (h : Ls0 w b own st) (hn : (allR st).length ≤ maxLen) : ∃ bm D nd tn sn, Fine b D nd tn sn st ∧ Lst own w w b (max st.most 0) bm (ids (tn ++ sn)) nd tn sn ((nodeP bm D).and Part.emp) := by
  obtain ⟨bm, D, nd, tn, sn, G, L⟩ := h.law
  exact ⟨bm, D, nd, tn, sn, G, L, G.lk, by rw [← G.len]; exact hn⟩
theorem Fine.keysNodup {b : Nat} {D : DataW Value} {nd : Nat → Array Value} {tn sn : List Nk} {st : Sr} (h : Fine b D nd tn sn st) : (keysN (tn ++ sn)).Nodup := by
  rw [← h.all]
  exact h.good.nodup
/-- A new node beside those that there are. -/
theorem lk_more {b k : Nat} {nd : Nat → Array Value} {I : List Nat} {tn sn : List Nk} {s : ByteArray} (h : Lk b nd I tn sn) (hk : ∀ j ∈ I, j ≠ k) : Lk b (fun j => if j = k then #[.string s, .pointer none, .pointer none, .pointer none] else nd j) (k :: I) tn sn ∧ Loose (fun j => if j = k then #[.string s, .pointer none, .pointer none, .pointer none] else nd j) (k :: I) tn sn (k, s) :=
  ⟨⟨chain_same h.t fun y hy => if_neg (hk _ (h.sub y (List.mem_append_left _ hy))), chain_same h.s fun y hy => if_neg (hk _ (h.sub y (List.mem_append_right _ hy))), h.nodup, fun y hy => List.mem_cons_of_mem _ (h.sub y hy)⟩, ⟨⟨_, _, _, if_pos rfl⟩, List.mem_cons_self, fun y hy => hk _ (h.sub y hy)⟩⟩
set_option maxRecDepth 100000 in
set_option maxHeartbeats 4000000 in
theorem addR_any {w : World} {b : Nat} {own : Nat → Prop} {st : Sr} (h : Ls0 w b own st) (hn : (allR st).length < maxLen) (s : ByteArray) (hs : s.size ≤ maxLen) :
    Calls Try.prog 12 #[.pointer (some ⟨b, 0, none⟩), .string s] w fun e w' => e = .returned (.int .i64 (addErr st s)) ∧ ∃ own', Ls0 w' b own' (addR st s) ∧ Gr own w w' ∧ Grew w own own' := by
  obtain ⟨bm, D, nd, tn, sn, G, H⟩ := h.lst (Nat.le_of_lt hn)
  have c1 := H.row.head (i := 1) (v := .map (some bm)) rfl
  by_cases hk : s ∈ allR st
  · have hk' := hk
    rw [G.all] at hk'
    obtain ⟨x, hx, rfl⟩ := List.mem_map.1 hk'
    have r1 := look_in H.row.q.2.1.2.1.1 G.told hx hs
    have HS := hide (stay_same h)
    have HK := hide hk
    clear H G h hk' hk
    go_enter Try.func12, Try.ntmps12
    go_wp2
    go_ret
    obtain ⟨e1, e2⟩ := add_in HK.out
    rw [e1, e2]
    exact ⟨rfl, HS.out⟩
  · have hk' := hk
    rw [G.all] at hk'
    have r1 := look_out H.row.q.2.1.2.1.1 G.told hk' hs
    have L1 := (H.row.box (.cells #[.string s, .pointer none, .pointer none, .pointer none] 56)).more
    have c2 := RowAt.head L1 (i := 1) (v := .map (some bm)) rfl
    obtain ⟨lk1, lo1⟩ := lk_more (k := w.heap.size) (s := s) H.lk (fun j hj e => by have := (H.row.lt j (.inr (.inl hj))).1; omega)
    have hown : (w.alloc (.cells #[.string s, .pointer none, .pointer none, .pointer none] 56)).ownsMap Try.prog 9 heldElem bm (Maps.size D) D := L1.q.2.1.2.1.1
    have hsz : Maps.size D < maxLen := by rw [G.told.size, List.length_append, ← G.len]; exact hn
    have hlt : tn.length + sn.length < maxLen := by rw [← G.len]; exact hn
    have HT := hide (World.ownsMap.tidy hown keyed_str)
    have HG := hide G
    have HK := hide hk
    have HK' := hide hk'
    have HL := hide lk1
    have HO := hide lo1
    clear H G h hk hk' lk1 lo1
    go_enter Try.func12, Try.ntmps12
    go_wp2_with (first
      | (at_mapUpdate; refine wpList_mapUpdate_in _ rfl _ _ _ 47 rfl 9 48 keyed_str Try.underlying47 heldElem bm _ D rfl hown hsz _ (ptr w.heap.size) (keyS s) rfl rfl (keyOf_str hs) (.held (ptr w.heap.size)) [] rfl ?_; intro w2 hown2 hturn2; have L2 := (L1.map3.mapTurn hown2 hturn2).unmap3)
      | (go_at_call 26; refine (putT_is (x := (w.heap.size, s)) ⟨L2, HL.out, Nat.le_of_lt hlt⟩ HO.out hlt).mono ?_; rintro e w3 ⟨rfl, nd3, H3⟩))
    go_ret
    obtain ⟨e1, e2⟩ := add_out HK.out
    rw [e1, e2]
    refine ⟨rfl, ?_⟩
    have hp : (tn ++ [(w.heap.size, s)] ++ sn).Perm ((w.heap.size, s) :: (tn ++ sn)) := by
      rw [List.append_assoc]
      exact List.perm_middle
    refine H3.fine (st := ⟨st.most, st.trial ++ [s], st.safe⟩) rfl (told_put (x := (w.heap.size, s)) HG.out.told HT.out HK'.out hp) ?_ HG.out.safe ?_ ?_ HG.out.most
    · rw [HG.out.trial]
      simp [keysN]
    · intro y hy
      rcases List.mem_cons.1 (hp.subset hy) with rfl | hy
      · exact hs
      · exact HG.out.short y hy
    · have := good_add HG.out.good s
      rw [e2] at this
      exact this
def HitEnd (F : Nat → Prop) (w0 w' : World) (b : Nat) (m : Int) (bm : Nat) (I : List Nat) (nd' : Nat → Array Value) (tn sn : List Nk) (y : Nk) (R : Part) : Prop :=
  if m < ((y :: sn).length : Int) then Lst F w0 w' b m bm I nd' (tn ++ [y]) sn R else Lst F w0 w' b m bm I nd' tn (y :: sn) R
theorem hitEnd_yes {F : Nat → Prop} {w0 w' : World} {b : Nat} {m : Int} {bm : Nat} {I : List Nat} {nd' : Nat → Array Value} {tn sn : List Nk} {y : Nk} {R : Part} {n : Nat} (hn : (y :: sn).length = n) (hm : m < (n : Int)) (h : Lst F w0 w' b m bm I nd' (tn ++ [y]) ([] ++ sn) R) : HitEnd F w0 w' b m bm I nd' tn sn y R := by
  unfold HitEnd
  rw [hn, if_pos hm]
  exact h
theorem hitEnd_no {F : Nat → Prop} {w0 w' : World} {b : Nat} {m : Int} {bm : Nat} {I : List Nat} {nd' : Nat → Array Value} {tn sn : List Nk} {y : Nk} {R : Part} {n : Nat} (hn : (y :: sn).length = n) (hm : (n : Int) ≤ m) (h : Lst F w0 w' b m bm I nd' tn (y :: sn) R) : HitEnd F w0 w' b m bm I nd' tn sn y R := by
  unfold HitEnd
  rw [hn, if_neg (by omega)]
  exact h
set_option maxRecDepth 100000 in
set_option maxHeartbeats 4000000 in
theorem hit_walk {F : Nat → Prop} {w0 w : World} {b x bm : Nat} {m : Int} {I : List Nat} {tn sn : List Nk} {y : Nk} {R : Part} {s : ByteArray} (c1 : w.cell? ⟨b, 1, none⟩ = some (.map (some bm)))
    (r1 : (Instr.lookup 47 (.map (some bm)) (.string s) true).run Try.prog w = .ok (.tuple #[.pointer (some ⟨x, 0, none⟩), .bool true]) w)
    (hM : Calls Try.prog 28 #[.pointer (some ⟨x, 0, none⟩), .pointer (some ⟨b, 5, none⟩)] w fun e w' => e = .returned (.tuple #[]) ∧ ∃ nd', Lst F w0 w' b m bm I nd' tn (y :: sn) R) :
    Calls Try.prog 14 #[.pointer (some ⟨b, 0, none⟩), .string s] w fun e w' => e = .returned (.int .i64 0) ∧ ∃ nd', HitEnd F w0 w' b m bm I nd' tn sn y R := by
  obtain ⟨n, hn⟩ : ∃ n, (y :: sn).length = n := ⟨_, rfl⟩
  by_cases hlt : m < (n : Int)
  · have HC := hide hn
    go_enter Try.func14, Try.ntmps14
    go_upto_region 5 with (go_at_call 28; refine hM.mono ?_; rintro e w1 ⟨rfl, nd1, H1⟩)
    have d7 := H1.row.head (i := 7) (v := .int .i64 ((y :: sn).length : Nat)) rfl
    have d0 := H1.row.head (i := 0) (v := .int .i64 m) rfl
    rw [hn] at d7
    go_quiet (fail)
    clear d7 d0
    go_upto_region 6 with fail
    have H1' : Lst F w0 (w1.drewN nq) b m bm I nd1 tn (y :: sn) R := ⟨H1.row.drewN nq, H1.lk, H1.small⟩
    clear H1
    generalize w1.drewN nq = w2 at *
    have H2 : Lst F w0 w2.drew b m bm I nd1 tn (y :: sn) R := ⟨H1'.row.drew, H1'.lk, H1'.small⟩
    have d5 := H2.row.head (i := 5) (v := .pointer (some ⟨y.1, 0, none⟩)) rfl
    clear H1'
    go_region_with (go_at_call 28; refine (moveST_is (A := []) H2).mono ?_; rintro e w3 ⟨rfl, nd3, H3⟩)
    all_goals
      go_wp2
      go_ret
      exact ⟨rfl, nd3, hitEnd_yes HC.out hlt H3⟩
  · have HC := hide hn
    have hle : (n : Int) ≤ m := Int.not_lt.1 hlt
    clear hlt
    go_enter Try.func14, Try.ntmps14
    go_upto_region 5 with (go_at_call 28; refine hM.mono ?_; rintro e w1 ⟨rfl, nd1, H1⟩)
    have d7 := H1.row.head (i := 7) (v := .int .i64 ((y :: sn).length : Nat)) rfl
    have d0 := H1.row.head (i := 0) (v := .int .i64 m) rfl
    rw [hn] at d7
    go_quiet (fail)
    clear d7 d0
    go_wp2
    go_ret
    exact ⟨rfl, nd1, hitEnd_no HC.out hle ⟨H1.row.drewN _, H1.lk, H1.small⟩⟩
theorem keys_cut {A B sn : List Nk} {x : Nk} (h : (keysN (A ++ x :: B ++ sn)).Nodup) : without (keysN (A ++ x :: B)) x.2 = keysN (A ++ B) ∧ without (keysN sn) x.2 = keysN sn := by
  unfold keysN at h
  rw [List.map_append, List.nodup_append] at h
  exact ⟨keys_mid h.1, without_not fun hm => h.2.2 x.2 (by simp) x.2 hm rfl⟩
theorem keys_cut' {A B tn : List Nk} {x : Nk} (h : (keysN (tn ++ (A ++ x :: B))).Nodup) : without (keysN (A ++ x :: B)) x.2 = keysN (A ++ B) ∧ without (keysN tn) x.2 = keysN tn := by
  unfold keysN at h
  rw [List.map_append, List.nodup_append] at h
  exact ⟨keys_mid h.2.1, without_not fun hm => h.2.2 x.2 hm x.2 (by simp) rfl⟩
/-- Behind a hit: the state, whichever row the key was in. -/
theorem hit_end {F : Nat → Prop} {w0 w : World} {b bm : Nat} {I : List Nat} {tn sn : List Nk} {y : Nk} {D : DataW Value} {st : Sr} {nd : Nat → Array Value} {l : List Nk} (hl : (tn ++ y :: sn).Perm l) (T : ToldR D l) (hk : ∀ x ∈ l, x.2.size ≤ maxLen) (hi : I64 st.most) {s : ByteArray} (hg : GoodR (hitR st s)) (e : hitR st s = spill ⟨st.most, keysN tn, keysN (y :: sn)⟩)
    (h : HitEnd F w0 w b (max st.most 0) bm I nd tn sn y ((nodeP bm D).and Part.emp)) : ∃ own', Ls0 w b own' (hitR st s) ∧ Gr F w0 w ∧ Grew w0 F own' := by
  unfold HitEnd at h
  have hm := most_hit st s
  have hlen : ((keysN (y :: sn)).length : Int) = ((y :: sn).length : Int) := by simp [keysN]
  by_cases hc : max st.most 0 < ((y :: sn).length : Int)
  · rw [if_pos hc] at h
    have e2 : hitR st s = ⟨st.most, keysN (tn ++ [y]), keysN sn⟩ := by
      rw [e]
      unfold spill
      rw [if_pos (show st.most < ((keysN (y :: sn)).length : Int) by rw [hlen]; omega)]
      simp [keysN]
    have hp : l.Perm (tn ++ [y] ++ sn) := by
      refine hl.symm.trans ?_
      rw [List.append_assoc]
      exact List.Perm.refl _
    refine h.fine (by rw [hm]) (told_perm T hp) (by rw [e2]) (by rw [e2]) (fun x hx => hk x (hp.symm.subset hx)) hg (by rw [hm]; exact hi)
  · rw [if_neg hc] at h
    have e2 : hitR st s = ⟨st.most, keysN tn, keysN (y :: sn)⟩ := by
      rw [e]
      unfold spill
      have h1 : 1 ≤ ((y :: sn).length : Int) := by simp; omega
      rw [if_neg (show ¬ st.most < ((keysN (y :: sn)).length : Int) by rw [hlen]; omega)]
    refine h.fine (by rw [hm]) (told_perm T hl.symm) (by rw [e2]) (by rw [e2]) (fun x hx => hk x (hl.subset hx)) hg (by rw [hm]; exact hi)
theorem snoc_cons (l : List Nk) (x : Nk) : ∃ y r, l ++ [x] = y :: r := by
  cases l with
  | nil => exact ⟨x, [], rfl⟩
  | cons a l => exact ⟨a, l ++ [x], rfl⟩
theorem hitR_any {w : World} {b : Nat} {own : Nat → Prop} {st : Sr} (h : Ls0 w b own st) (hn : (allR st).length ≤ maxLen) (s : ByteArray) (hs : s.size ≤ maxLen) :
    Calls Try.prog 14 #[.pointer (some ⟨b, 0, none⟩), .string s] w fun e w' => e = .returned (.int .i64 (remErr st s)) ∧ ∃ own', Ls0 w' b own' (hitR st s) ∧ Gr own w w' ∧ Grew w own own' := by
  obtain ⟨bm, D, nd, tn, sn, G, H⟩ := h.lst hn
  have c1 := H.row.head (i := 1) (v := .map (some bm)) rfl
  by_cases hk : s ∈ allR st
  · have hk' := hk
    rw [G.all] at hk'
    obtain ⟨x, hx, rfl⟩ := List.mem_map.1 hk'
    have r1 := look_in H.row.q.2.1.2.1.1 G.told hx hs
    have hg := good_hit G.good x.2
    have hnd := G.keysNodup
    have eH : hitR st x.2 = spill ⟨st.most, without st.trial x.2, without st.safe x.2 ++ [x.2]⟩ := by
      unfold hitR
      rw [if_pos (hasK_iff.2 hk)]
    rw [G.trial, G.safe] at eH
    rw [rem_in hk]
    rcases List.mem_append.1 hx with ht | ht
    · obtain ⟨A, B, rfl⟩ := List.append_of_mem ht
      obtain ⟨y, r, er⟩ := snoc_cons sn x
      have hM := moveTS_is H
      rw [er] at hM
      obtain ⟨k1, k2⟩ := keys_cut hnd
      have e3 : keysN sn ++ [x.2] = keysN (y :: r) := by rw [← er]; simp [keysN]
      rw [k1, k2, e3] at eH
      have hp : (A ++ B ++ y :: r).Perm (A ++ x :: B ++ sn) := by
        rw [← er]
        have h1 : (A ++ B ++ (sn ++ [x])).Perm (x :: (A ++ B ++ sn)) := by rw [← List.append_assoc]; exact List.perm_append_comm
        have h2 : (A ++ x :: B ++ sn).Perm (x :: (A ++ B ++ sn)) := by simp
        exact h1.trans h2.symm
      exact (hit_walk c1 r1 hM).mono fun e w' ⟨he, nd', h'⟩ => ⟨he, hit_end hp G.told G.short G.most hg eH h'⟩
    · obtain ⟨A, B, rfl⟩ := List.append_of_mem ht
      obtain ⟨y, r, er⟩ := snoc_cons (A ++ B) x
      have hM := moveSS_is H
      rw [er] at hM
      obtain ⟨k1, k2⟩ := keys_cut' hnd
      have e3 : keysN (A ++ B) ++ [x.2] = keysN (y :: r) := by rw [← er]; simp [keysN]
      rw [k1, k2, e3] at eH
      have hp : (tn ++ y :: r).Perm (tn ++ (A ++ x :: B)) := by
        rw [← er]
        have h1 : (A ++ B ++ [x]).Perm (x :: (A ++ B)) := List.perm_append_comm
        exact List.Perm.append_left tn (h1.trans List.perm_middle.symm)
      exact (hit_walk c1 r1 hM).mono fun e w' ⟨he, nd', h'⟩ => ⟨he, hit_end hp G.told G.short G.most hg eH h'⟩
  · have hk' := hk
    rw [G.all] at hk'
    have r1 := look_out H.row.q.2.1.2.1.1 G.told hk' hs
    have HS := hide (stay_same h)
    rw [(rem_out hk).1, hit_out hk]
    clear H G h hk' hk
    go_enter Try.func14, Try.ntmps14
    go_wp2
    go_ret
    exact ⟨rfl, HS.out⟩
set_option maxRecDepth 100000 in
set_option maxHeartbeats 4000000 in
theorem rem_walk {F : Nat → Prop} {w0 w : World} {b x bm off : Nat} {m : Int} {I : List Nat} {tn sn : List Nk} {D : DataW Value} {s : ByteArray} (hs : s.size ≤ maxLen) (c1 : w.cell? ⟨b, 1, none⟩ = some (.map (some bm))) (c2 : w.cell? ⟨x, 1, none⟩ = some (.pointer (some ⟨b, off, none⟩)))
    (r1 : (Instr.lookup 47 (.map (some bm)) (.string s) true).run Try.prog w = .ok (.tuple #[.pointer (some ⟨x, 0, none⟩), .bool true]) w)
    (hM : Calls Try.prog 29 #[.pointer (some ⟨b, off, none⟩), .pointer (some ⟨x, 0, none⟩)] w fun e w' => e = .returned (.tuple #[]) ∧ ∃ nd', Lst F w0 w' b m bm I nd' tn sn ((nodeP bm D).and Part.emp)) :
    Calls Try.prog 16 #[.pointer (some ⟨b, 0, none⟩), .string s] w fun e w' => e = .returned (.int .i64 0) ∧ ∃ nd', Lst F w0 w' b m bm I nd' tn sn ((nodeP bm (D.del (keyS s))).and Part.emp) := by
  go_enter Try.func16, Try.ntmps16
  go_wp2_with (first
    | (go_at_call 29; refine hM.mono ?_; rintro e w1 ⟨rfl, nd1, H1⟩; have c3 := H1.row.head (i := 1) (v := .map (some bm)) rfl; have hown : w1.ownsMap Try.prog 9 heldElem bm (Maps.size D) D := H1.row.q.2.1.2.1.1)
    | (at_delete; refine wpList_delete_own _ rfl _ _ 47 9 rfl 48 keyed_str Try.underlying47 _ bm _ D rfl hown _ _ rfl (keyOf_str hs) ?_; intro w2 hown2 hturn2; have L2 := (H1.row.map3.mapTurn hown2 hturn2).unmap3))
  go_ret
  exact ⟨rfl, nd1, L2, H1.lk, H1.small⟩
theorem remR_any {w : World} {b : Nat} {own : Nat → Prop} {st : Sr} (h : Ls0 w b own st) (hn : (allR st).length ≤ maxLen) (s : ByteArray) (hs : s.size ≤ maxLen) :
    Calls Try.prog 16 #[.pointer (some ⟨b, 0, none⟩), .string s] w fun e w' => e = .returned (.int .i64 (remErr st s)) ∧ ∃ own', Ls0 w' b own' (remR st s) ∧ Gr own w w' ∧ Grew w own own' := by
  obtain ⟨bm, D, nd, tn, sn, G, H⟩ := h.lst hn
  have c1 := H.row.head (i := 1) (v := .map (some bm)) rfl
  by_cases hk : s ∈ allR st
  · have hk' := hk
    rw [G.all] at hk'
    obtain ⟨x, hx, rfl⟩ := List.mem_map.1 hk'
    have r1 := look_in H.row.q.2.1.2.1.1 G.told hx hs
    have hg := good_rem G.good x.2
    have hnd := G.keysNodup
    have hT := World.ownsMap.tidy (show w.ownsMap Try.prog 9 heldElem bm (Maps.size D) D from H.row.q.2.1.2.1.1) keyed_str
    rw [rem_in hk]
    rcases List.mem_append.1 hx with ht | ht
    · obtain ⟨A, B, rfl⟩ := List.append_of_mem ht
      obtain ⟨k1, k2⟩ := keys_cut hnd
      have hp : (A ++ x :: B ++ sn).Perm (x :: (A ++ B ++ sn)) := by simp
      refine (rem_walk hs c1 (H.row.node (H.lk.sub x (by simp)) (by rw [H.lk.t A x B rfl]; rfl)) r1 ((takeT_is H).mono fun e w' ⟨he, nd', h1, _⟩ => ⟨he, nd', h1⟩)).mono fun e w' ⟨he, nd', h'⟩ => ⟨he, ?_⟩
      exact h'.fine (st := remR st x.2) rfl (told_del G.told hT hnd hp) (by unfold remR; rw [G.trial]; exact k1) (by unfold remR; rw [G.safe]; exact k2) (fun y hy => G.short y (hp.symm.subset (List.mem_cons_of_mem _ hy))) hg G.most
    · obtain ⟨A, B, rfl⟩ := List.append_of_mem ht
      obtain ⟨k1, k2⟩ := keys_cut' hnd
      have hp : (tn ++ (A ++ x :: B)).Perm (x :: (tn ++ (A ++ B))) := by
        rw [← List.append_assoc, ← List.append_assoc]
        exact List.perm_middle
      refine (rem_walk hs c1 (H.row.node (H.lk.sub x (by simp)) (by rw [H.lk.s A x B rfl]; rfl)) r1 ((takeS_is H).mono fun e w' ⟨he, nd', h1, _⟩ => ⟨he, nd', h1⟩)).mono fun e w' ⟨he, nd', h'⟩ => ⟨he, ?_⟩
      exact h'.fine (st := remR st x.2) rfl (told_del G.told hT hnd hp) (by unfold remR; rw [G.trial]; exact k2) (by unfold remR; rw [G.safe]; exact k1) (fun y hy => G.short y (hp.symm.subset (List.mem_cons_of_mem _ hy))) hg G.most
  · have hk' := hk
    rw [G.all] at hk'
    have r1 := look_out H.row.q.2.1.2.1.1 G.told hk' hs
    have HS := hide (stay_same h)
    rw [(rem_out hk).1, (rem_out hk).2]
    clear H G h hk' hk
    go_enter Try.func16, Try.ntmps16
    go_wp2
    go_ret
    exact ⟨rfl, HS.out⟩
end Go.Proofs.Ytedfhikmlicbgaa
