/- The contracts of package slru: Add, Hit, Remove. Conditions: none. The keys of a list, one by one, as package slru goes over them itself. Conditions: none. What All and Victim of package slru share: its own keys, told one by one. Conditions: none. -/
import Derived.Test.YtckjjfkfapfdaaaGreatG20Joined
import Derived.Test.YtckjjfkfapfdaaaGreatG07Joined
import Derived.Sort.BigQuietIn
import Derived.Sort.CutIn
import Derived.Maps.OwnIn
namespace Go.Proofs.YtckjjfkfapfdaaaGreat
open Go.RowKit Go.Maps

section
variable {F : Nat → Prop} {w0 w : World} {b : Nat} {m : Int} {bm : Nat} {I : List Nat} {nd : Nat → Array Value} {tn sn A B : List Nk} {D : DataW Value} {st : Sr}
theorem stay_same {own : Nat → Prop} (h : Ls0 w b own st) : ∃ own', Ls0 w b own' st ∧ Gr own w w ∧ Grew w own own' := ⟨own, h, Gr.refl _ _, fun _ hk => .inl hk⟩
/-- A list's state out of its nodes. -/
theorem Lst.fine (H : Lst F w0 w b m bm I nd tn sn ((nodeP bm D).and Part.emp)) (hm : m = max st.most 0) (T : ToldR D (tn ++ sn)) (ht : st.trial = keysN tn) (hs : st.safe = keysN sn) (hk : ∀ x ∈ tn ++ sn, x.2.size ≤ maxLen) (hg : GoodR st) (hi : I64 st.most) : ∃ own', Ls0 w b own' st ∧ Gr F w0 w ∧ Grew w0 F own' := by
  have L : LawF F w0 w (lsPart m b bm D nd tn sn) := LawF.fewer H.row (fun k hk => by
    obtain ⟨y, hy, rfl⟩ := List.mem_map.1 hk
    exact H.lk.sub y hy)
  exact Ls0.of hm L ⟨⟨H.lk.t, H.lk.s, H.lk.nodup, fun y hy => List.mem_map_of_mem hy⟩, T, ht, hs, hk, hg, hi⟩
end
theorem Ls0.lst {w : World} {b : Nat} {own : Nat → Prop} {st : Sr} (h : Ls0 w b own st) (hn : (allR st).length ≤ maxLen) : ∃ bm D nd tn sn, Fine b D nd tn sn st ∧ Lst own w w b (max st.most 0) bm (ids (tn ++ sn)) nd tn sn ((nodeP bm D).and Part.emp) := by
  obtain ⟨bm, D, nd, tn, sn, G, L⟩ := h.law
  exact ⟨bm, D, nd, tn, sn, G, L, G.lk, by rw [← G.len]; exact hn⟩
theorem Fine.keysNodup {b : Nat} {D : DataW Value} {nd : Nat → Array Value} {tn sn : List Nk} {st : Sr} (h : Fine b D nd tn sn st) : (keysN (tn ++ sn)).Nodup := by
  rw [← h.all]
  exact h.good.nodup
/-- A new node beside those that there are. -/
theorem lk_more {b k : Nat} {nd : Nat → Array Value} {I : List Nat} {tn sn : List Nk} {s : ByteArray} (h : Lk b nd I tn sn) (hk : ∀ j ∈ I, j ≠ k) : Lk b (fun j => if j = k then #[.string s, .pointer none, .pointer none, .pointer none] else nd j) (k :: I) tn sn ∧ Loose (fun j => if j = k then #[.string s, .pointer none, .pointer none, .pointer none] else nd j) (k :: I) tn sn (k, s) :=
  ⟨⟨chain_same h.t fun y hy => if_neg (hk _ (h.sub y (List.mem_append_left _ hy))), chain_same h.s fun y hy => if_neg (hk _ (h.sub y (List.mem_append_right _ hy))), h.nodup, fun y hy => List.mem_cons_of_mem _ (h.sub y hy)⟩, ⟨⟨_, _, _, if_pos rfl⟩, List.mem_cons_self, fun y hy => hk _ (h.sub y hy)⟩⟩
set_option maxRecDepth 100000 in
set_option maxHeartbeats 4000000 in
theorem addR_any {w : World} {b : Nat} {own : Nat → Prop} {st : Sr} (h : Ls0 w b own st) (hn : (allR st).length < maxLen) (s : ByteArray) (hs : s.size ≤ maxLen) :
    Calls Tryz.prog 83 #[.pointer (some ⟨b, 0, none⟩), .string s] w fun e w' => e = .returned (.int .i64 (addErr st s)) ∧ ∃ own', Ls0 w' b own' (addR st s) ∧ Gr own w w' ∧ Grew w own own' := by
  obtain ⟨bm, D, nd, tn, sn, G, H⟩ := h.lst (Nat.le_of_lt hn)
  have c1 := H.row.head (i := 1) (v := .map (some bm)) rfl
  by_cases hk : s ∈ allR st
  · have hk' := hk
    rw [G.all] at hk'
    obtain ⟨x, hx, rfl⟩ := List.mem_map.1 hk'
    have r1 := lookR_in H.row.q.2.1.2.1.1 G.told hx hs
    have HS := hide (stay_same h)
    have HK := hide hk
    clear H G h hk' hk
    go_enter Tryz.func83, Tryz.ntmps83
    go_wp2
    go_ret
    obtain ⟨e1, e2⟩ := add_in HK.out
    rw [e1, e2]
    exact ⟨rfl, HS.out⟩
  · have hk' := hk
    rw [G.all] at hk'
    have r1 := look_out H.row.q.2.1.2.1.1 G.told hk' hs
    have L1 := (H.row.box (.cells #[.string s, .pointer none, .pointer none, .pointer none] 154)).more
    have c2 := RowAt.head L1 (i := 1) (v := .map (some bm)) rfl
    obtain ⟨lk1, lo1⟩ := lk_more (k := w.heap.size) (s := s) H.lk (fun j hj e => by have := (H.row.lt j (.inr (.inl hj))).1; omega)
    have hown : (w.alloc (.cells #[.string s, .pointer none, .pointer none, .pointer none] 154)).ownsMap Tryz.prog 9 heldElem bm (Maps.size D) D := L1.q.2.1.2.1.1
    have hsz : Maps.size D < maxLen := by rw [G.told.size, List.length_append, ← G.len]; exact hn
    have hlt : tn.length + sn.length < maxLen := by rw [← G.len]; exact hn
    have HT := hide (World.ownsMap.tidy hown keyed_str)
    have HG := hide G
    have HK := hide hk
    have HK' := hide hk'
    have HL := hide lk1
    have HO := hide lo1
    clear H G h hk hk' lk1 lo1
    go_enter Tryz.func83, Tryz.ntmps83
    go_wp2_with (first
      | (at_mapUpdate; refine wpList_mapUpdate_in _ rfl _ _ _ 116 rfl 9 117 keyed_str Tryz.underlying116 heldElem bm _ D rfl hown hsz _ (ptr w.heap.size) (keyS s) rfl rfl (keyOf_str hs) (.held (ptr w.heap.size)) [] rfl ?_; intro w2 hown2 hturn2; have L2 := (L1.map3.mapTurn hown2 hturn2).unmap3)
      | (go_at_call 113; refine (putT_is (x := (w.heap.size, s)) ⟨L2, HL.out, Nat.le_of_lt hlt⟩ HO.out hlt).mono ?_; rintro e w3 ⟨rfl, nd3, H3⟩))
    go_ret
    obtain ⟨e1, e2⟩ := add_out HK.out
    rw [e1, e2]
    refine ⟨rfl, ?_⟩
    have hp : (tn ++ [(w.heap.size, s)] ++ sn).Perm ((w.heap.size, s) :: (tn ++ sn)) := by
      rw [List.append_assoc]
      exact List.perm_middle
    refine H3.fine (st := ⟨st.most, st.trial ++ [s], st.safe⟩) rfl (toldR_put (x := (w.heap.size, s)) HG.out.told HT.out HK'.out hp) ?_ HG.out.safe ?_ ?_ HG.out.most
    · rw [HG.out.trial]
      simp [keysN]
    · intro y hy
      rcases List.mem_cons.1 (hp.subset hy) with rfl | hy
      · exact hs
      · exact HG.out.short y hy
    · have := goodR_add HG.out.good s
      rw [e2] at this
      exact this
def HitEnd (F : Nat → Prop) (w0 w' : World) (b : Nat) (m : Int) (bm : Nat) (I : List Nat) (nd' : Nat → Array Value) (tn sn : List Nk) (y : Nk) (R : Part) : Prop :=
  if m < ((y :: sn).length : Int) then Lst F w0 w' b m bm I nd' (tn ++ [y]) sn R else Lst F w0 w' b m bm I nd' tn (y :: sn) R
theorem hitEnd_yes {F : Nat → Prop} {w0 w' : World} {b : Nat} {m : Int} {bm : Nat} {I : List Nat} {nd' : Nat → Array Value} {tn sn : List Nk} {y : Nk} {R : Part} {n : Nat} (hn : (y :: sn).length = n) (hm : m < (n : Int)) (h : Lst F w0 w' b m bm I nd' (tn ++ [y]) ([] ++ sn) R) : HitEnd F w0 w' b m bm I nd' tn sn y R := by
  unfold HitEnd
  rw [hn, if_pos hm]
  exact h
theorem hitEnd_no {F : Nat → Prop} {w0 w' : World} {b : Nat} {m : Int} {bm : Nat} {I : List Nat} {nd' : Nat → Array Value} {tn sn : List Nk} {y : Nk} {R : Part} {n : Nat} (hn : (y :: sn).length = n) (hm : (n : Int) ≤ m) (h : Lst F w0 w' b m bm I nd' tn (y :: sn) R) : HitEnd F w0 w' b m bm I nd' tn sn y R := by
  unfold HitEnd
  rw [hn, if_neg (by omega)]
  exact h
set_option maxRecDepth 100000 in
set_option maxHeartbeats 4000000 in
theorem hit_walk {F : Nat → Prop} {w0 w : World} {b x bm : Nat} {m : Int} {I : List Nat} {tn sn : List Nk} {y : Nk} {R : Part} {s : ByteArray} (c1 : w.cell? ⟨b, 1, none⟩ = some (.map (some bm)))
    (r1 : (Instr.lookup 116 (.map (some bm)) (.string s) true).run Tryz.prog w = .ok (.tuple #[.pointer (some ⟨x, 0, none⟩), .bool true]) w)
    (hM : Calls Tryz.prog 78 #[.pointer (some ⟨x, 0, none⟩), .pointer (some ⟨b, 5, none⟩)] w fun e w' => e = .returned (.tuple #[]) ∧ ∃ nd', Lst F w0 w' b m bm I nd' tn (y :: sn) R) :
    Calls Tryz.prog 47 #[.pointer (some ⟨b, 0, none⟩), .string s] w fun e w' => e = .returned (.int .i64 0) ∧ ∃ nd', HitEnd F w0 w' b m bm I nd' tn sn y R := by
  obtain ⟨n, hn⟩ : ∃ n, (y :: sn).length = n := ⟨_, rfl⟩
  by_cases hlt : m < (n : Int)
  · have HC := hide hn
    go_enter Tryz.func47, Tryz.ntmps47
    go_upto_region 5 with (go_at_call 78; refine hM.mono ?_; rintro e w1 ⟨rfl, nd1, H1⟩)
    have d7 := H1.row.head (i := 7) (v := .int .i64 ((y :: sn).length : Nat)) rfl
    have d0 := H1.row.head (i := 0) (v := .int .i64 m) rfl
    rw [hn] at d7
    go_quiet (fail)
    clear d7 d0
    go_upto_region 6 with fail
    have H1' : Lst F w0 (w1.drewN nq) b m bm I nd1 tn (y :: sn) R := ⟨H1.row.drewN nq, H1.lk, H1.small⟩
    clear H1
    generalize w1.drewN nq = w2 at *
    have H2 : Lst F w0 w2.drew b m bm I nd1 tn (y :: sn) R := ⟨H1'.row.drew, H1'.lk, H1'.small⟩
    have d5 := H2.row.head (i := 5) (v := .pointer (some ⟨y.1, 0, none⟩)) rfl
    clear H1'
    go_region_with (go_at_call 78; refine (moveST_is (A := []) H2).mono ?_; rintro e w3 ⟨rfl, nd3, H3⟩)
    all_goals
      go_wp2
      go_ret
      exact ⟨rfl, nd3, hitEnd_yes HC.out hlt H3⟩
  · have HC := hide hn
    have hle : (n : Int) ≤ m := Int.not_lt.1 hlt
    clear hlt
    go_enter Tryz.func47, Tryz.ntmps47
    go_upto_region 5 with (go_at_call 78; refine hM.mono ?_; rintro e w1 ⟨rfl, nd1, H1⟩)
    have d7 := H1.row.head (i := 7) (v := .int .i64 ((y :: sn).length : Nat)) rfl
    have d0 := H1.row.head (i := 0) (v := .int .i64 m) rfl
    rw [hn] at d7
    go_quiet (fail)
    clear d7 d0
    go_wp2
    go_ret
    exact ⟨rfl, nd1, hitEnd_no HC.out hle ⟨H1.row.drewN _, H1.lk, H1.small⟩⟩
theorem keys_cut {A B sn : List Nk} {x : Nk} (h : (keysN (A ++ x :: B ++ sn)).Nodup) : without (keysN (A ++ x :: B)) x.2 = keysN (A ++ B) ∧ without (keysN sn) x.2 = keysN sn := by
  unfold keysN at h
  rw [List.map_append, List.nodup_append] at h
  exact ⟨keys_mid h.1, without_not fun hm => h.2.2 x.2 (by simp) x.2 hm rfl⟩
theorem keys_cut' {A B tn : List Nk} {x : Nk} (h : (keysN (tn ++ (A ++ x :: B))).Nodup) : without (keysN (A ++ x :: B)) x.2 = keysN (A ++ B) ∧ without (keysN tn) x.2 = keysN tn := by
  unfold keysN at h
  rw [List.map_append, List.nodup_append] at h
  exact ⟨keys_mid h.2.1, without_not fun hm => h.2.2 x.2 hm x.2 (by simp) rfl⟩
/-- Behind a hit: the state, whichever row the key was in. -/
theorem hit_end {F : Nat → Prop} {w0 w : World} {b bm : Nat} {I : List Nat} {tn sn : List Nk} {y : Nk} {D : DataW Value} {st : Sr} {nd : Nat → Array Value} {l : List Nk} (hl : (tn ++ y :: sn).Perm l) (T : ToldR D l) (hk : ∀ x ∈ l, x.2.size ≤ maxLen) (hi : I64 st.most) {s : ByteArray} (hg : GoodR (hitR st s)) (e : hitR st s = spill ⟨st.most, keysN tn, keysN (y :: sn)⟩)
    (h : HitEnd F w0 w b (max st.most 0) bm I nd tn sn y ((nodeP bm D).and Part.emp)) : ∃ own', Ls0 w b own' (hitR st s) ∧ Gr F w0 w ∧ Grew w0 F own' := by
  unfold HitEnd at h
  have hm := most_hit st s
  have hlen : ((keysN (y :: sn)).length : Int) = ((y :: sn).length : Int) := by simp [keysN]
  by_cases hc : max st.most 0 < ((y :: sn).length : Int)
  · rw [if_pos hc] at h
    have e2 : hitR st s = ⟨st.most, keysN (tn ++ [y]), keysN sn⟩ := by
      rw [e]
      unfold spill
      rw [if_pos (show st.most < ((keysN (y :: sn)).length : Int) by rw [hlen]; omega)]
      simp [keysN]
    have hp : l.Perm (tn ++ [y] ++ sn) := by
      refine hl.symm.trans ?_
      rw [List.append_assoc]
      exact List.Perm.refl _
    refine h.fine (by rw [hm]) (told_perm T hp) (by rw [e2]) (by rw [e2]) (fun x hx => hk x (hp.symm.subset hx)) hg (by rw [hm]; exact hi)
  · rw [if_neg hc] at h
    have e2 : hitR st s = ⟨st.most, keysN tn, keysN (y :: sn)⟩ := by
      rw [e]
      unfold spill
      have h1 : 1 ≤ ((y :: sn).length : Int) := by simp; omega
      rw [if_neg (show ¬ st.most < ((keysN (y :: sn)).length : Int) by rw [hlen]; omega)]
    refine h.fine (by rw [hm]) (told_perm T hl.symm) (by rw [e2]) (by rw [e2]) (fun x hx => hk x (hl.subset hx)) hg (by rw [hm]; exact hi)
theorem snoc_cons (l : List Nk) (x : Nk) : ∃ y r, l ++ [x] = y :: r := by
  cases l with
  | nil => exact ⟨x, [], rfl⟩
  | cons a l => exact ⟨a, l ++ [x], rfl⟩
theorem hitR_any {w : World} {b : Nat} {own : Nat → Prop} {st : Sr} (h : Ls0 w b own st) (hn : (allR st).length ≤ maxLen) (s : ByteArray) (hs : s.size ≤ maxLen) :
    Calls Tryz.prog 47 #[.pointer (some ⟨b, 0, none⟩), .string s] w fun e w' => e = .returned (.int .i64 (remErr st s)) ∧ ∃ own', Ls0 w' b own' (hitR st s) ∧ Gr own w w' ∧ Grew w own own' := by
  obtain ⟨bm, D, nd, tn, sn, G, H⟩ := h.lst hn
  have c1 := H.row.head (i := 1) (v := .map (some bm)) rfl
  by_cases hk : s ∈ allR st
  · have hk' := hk
    rw [G.all] at hk'
    obtain ⟨x, hx, rfl⟩ := List.mem_map.1 hk'
    have r1 := lookR_in H.row.q.2.1.2.1.1 G.told hx hs
    have hg := good_hit G.good x.2
    have hnd := G.keysNodup
    have eH : hitR st x.2 = spill ⟨st.most, without st.trial x.2, without st.safe x.2 ++ [x.2]⟩ := by
      unfold hitR
      rw [if_pos (hasK_iff.2 hk)]
    rw [G.trial, G.safe] at eH
    rw [rem_in hk]
    rcases List.mem_append.1 hx with ht | ht
    · obtain ⟨A, B, rfl⟩ := List.append_of_mem ht
      obtain ⟨y, r, er⟩ := snoc_cons sn x
      have hM := moveTS_is H
      rw [er] at hM
      obtain ⟨k1, k2⟩ := keys_cut hnd
      have e3 : keysN sn ++ [x.2] = keysN (y :: r) := by rw [← er]; simp [keysN]
      rw [k1, k2, e3] at eH
      have hp : (A ++ B ++ y :: r).Perm (A ++ x :: B ++ sn) := by
        rw [← er]
        have h1 : (A ++ B ++ (sn ++ [x])).Perm (x :: (A ++ B ++ sn)) := by rw [← List.append_assoc]; exact List.perm_append_comm
        have h2 : (A ++ x :: B ++ sn).Perm (x :: (A ++ B ++ sn)) := by simp
        exact h1.trans h2.symm
      exact (hit_walk c1 r1 hM).mono fun e w' ⟨he, nd', h'⟩ => ⟨he, hit_end hp G.told G.short G.most hg eH h'⟩
    · obtain ⟨A, B, rfl⟩ := List.append_of_mem ht
      obtain ⟨y, r, er⟩ := snoc_cons (A ++ B) x
      have hM := moveSS_is H
      rw [er] at hM
      obtain ⟨k1, k2⟩ := keys_cut' hnd
      have e3 : keysN (A ++ B) ++ [x.2] = keysN (y :: r) := by rw [← er]; simp [keysN]
      rw [k1, k2, e3] at eH
      have hp : (tn ++ y :: r).Perm (tn ++ (A ++ x :: B)) := by
        rw [← er]
        have h1 : (A ++ B ++ [x]).Perm (x :: (A ++ B)) := List.perm_append_comm
        exact List.Perm.append_left tn (h1.trans List.perm_middle.symm)
      exact (hit_walk c1 r1 hM).mono fun e w' ⟨he, nd', h'⟩ => ⟨he, hit_end hp G.told G.short G.most hg eH h'⟩
  · have hk' := hk
    rw [G.all] at hk'
    have r1 := look_out H.row.q.2.1.2.1.1 G.told hk' hs
    have HS := hide (stay_same h)
    rw [(rem_out hk).1, hit_out hk]
    clear H G h hk' hk
    go_enter Tryz.func47, Tryz.ntmps47
    go_wp2
    go_ret
    exact ⟨rfl, HS.out⟩
set_option maxRecDepth 100000 in
set_option maxHeartbeats 4000000 in
theorem rem_walk {F : Nat → Prop} {w0 w : World} {b x bm off : Nat} {m : Int} {I : List Nat} {tn sn : List Nk} {D : DataW Value} {s : ByteArray} (hs : s.size ≤ maxLen) (c1 : w.cell? ⟨b, 1, none⟩ = some (.map (some bm))) (c2 : w.cell? ⟨x, 1, none⟩ = some (.pointer (some ⟨b, off, none⟩)))
    (r1 : (Instr.lookup 116 (.map (some bm)) (.string s) true).run Tryz.prog w = .ok (.tuple #[.pointer (some ⟨x, 0, none⟩), .bool true]) w)
    (hM : Calls Tryz.prog 93 #[.pointer (some ⟨b, off, none⟩), .pointer (some ⟨x, 0, none⟩)] w fun e w' => e = .returned (.tuple #[]) ∧ ∃ nd', Lst F w0 w' b m bm I nd' tn sn ((nodeP bm D).and Part.emp)) :
    Calls Tryz.prog 57 #[.pointer (some ⟨b, 0, none⟩), .string s] w fun e w' => e = .returned (.int .i64 0) ∧ ∃ nd', Lst F w0 w' b m bm I nd' tn sn ((nodeP bm (D.del (keyS s))).and Part.emp) := by
  go_enter Tryz.func57, Tryz.ntmps57
  go_wp2_with (first
    | (go_at_call 93; refine hM.mono ?_; rintro e w1 ⟨rfl, nd1, H1⟩; have c3 := H1.row.head (i := 1) (v := .map (some bm)) rfl; have hown : w1.ownsMap Tryz.prog 9 heldElem bm (Maps.size D) D := H1.row.q.2.1.2.1.1)
    | (at_delete; refine wpList_delete_own _ rfl _ _ 116 9 rfl 117 keyed_str Tryz.underlying116 _ bm _ D rfl hown _ _ rfl (keyOf_str hs) ?_; intro w2 hown2 hturn2; have L2 := (H1.row.map3.mapTurn hown2 hturn2).unmap3))
  go_ret
  exact ⟨rfl, nd1, L2, H1.lk, H1.small⟩
theorem remR_any {w : World} {b : Nat} {own : Nat → Prop} {st : Sr} (h : Ls0 w b own st) (hn : (allR st).length ≤ maxLen) (s : ByteArray) (hs : s.size ≤ maxLen) :
    Calls Tryz.prog 57 #[.pointer (some ⟨b, 0, none⟩), .string s] w fun e w' => e = .returned (.int .i64 (remErr st s)) ∧ ∃ own', Ls0 w' b own' (remR st s) ∧ Gr own w w' ∧ Grew w own own' := by
  obtain ⟨bm, D, nd, tn, sn, G, H⟩ := h.lst hn
  have c1 := H.row.head (i := 1) (v := .map (some bm)) rfl
  by_cases hk : s ∈ allR st
  · have hk' := hk
    rw [G.all] at hk'
    obtain ⟨x, hx, rfl⟩ := List.mem_map.1 hk'
    have r1 := lookR_in H.row.q.2.1.2.1.1 G.told hx hs
    have hg := good_rem G.good x.2
    have hnd := G.keysNodup
    have hT := World.ownsMap.tidy (show w.ownsMap Tryz.prog 9 heldElem bm (Maps.size D) D from H.row.q.2.1.2.1.1) keyed_str
    rw [rem_in hk]
    rcases List.mem_append.1 hx with ht | ht
    · obtain ⟨A, B, rfl⟩ := List.append_of_mem ht
      obtain ⟨k1, k2⟩ := keys_cut hnd
      have hp : (A ++ x :: B ++ sn).Perm (x :: (A ++ B ++ sn)) := by simp
      refine (rem_walk hs c1 (H.row.node (H.lk.sub x (by simp)) (by rw [H.lk.t A x B rfl]; rfl)) r1 ((takeT_is H).mono fun e w' ⟨he, nd', h1, _⟩ => ⟨he, nd', h1⟩)).mono fun e w' ⟨he, nd', h'⟩ => ⟨he, ?_⟩
      exact h'.fine (st := remR st x.2) rfl (told_del G.told hT hnd hp) (by unfold remR; rw [G.trial]; exact k1) (by unfold remR; rw [G.safe]; exact k2) (fun y hy => G.short y (hp.symm.subset (List.mem_cons_of_mem _ hy))) hg G.most
    · obtain ⟨A, B, rfl⟩ := List.append_of_mem ht
      obtain ⟨k1, k2⟩ := keys_cut' hnd
      have hp : (tn ++ (A ++ x :: B)).Perm (x :: (tn ++ (A ++ B))) := by
        rw [← List.append_assoc, ← List.append_assoc]
        exact List.perm_middle
      refine (rem_walk hs c1 (H.row.node (H.lk.sub x (by simp)) (by rw [H.lk.s A x B rfl]; rfl)) r1 ((takeS_is H).mono fun e w' ⟨he, nd', h1, _⟩ => ⟨he, nd', h1⟩)).mono fun e w' ⟨he, nd', h'⟩ => ⟨he, ?_⟩
      exact h'.fine (st := remR st x.2) rfl (told_del G.told hT hnd hp) (by unfold remR; rw [G.trial]; exact k2) (by unfold remR; rw [G.safe]; exact k1) (fun y hy => G.short y (hp.symm.subset (List.mem_cons_of_mem _ hy))) hg G.most
  · have hk' := hk
    rw [G.all] at hk'
    have r1 := look_out H.row.q.2.1.2.1.1 G.told hk' hs
    have HS := hide (stay_same h)
    rw [(rem_out hk).1, (rem_out hk).2]
    clear H G h hk' hk
    go_enter Tryz.func57, Tryz.ntmps57
    go_wp2
    go_ret
    exact ⟨rfl, HS.out⟩
end Go.Proofs.YtckjjfkfapfdaaaGreat

namespace Go.Proofs.YtckjjfkfapfdaaaGreat
open Go.RowKit Go.Maps Go.Shelf
attribute [local go_sem] Oper.semAt_some

def toldK (tn sn : List Nk) : Nat → List ByteArray
  | 0 => []
  | 1 => keysN tn
  | _ => keysN (tn ++ sn)
/-- How many nodes are left, from a pointer on. -/
def restOf (l : List Nk) : Value → Nat
  | .pointer (some a) => l.length - (ids l).idxOf a.block
  | _ => 0
theorem restOf_at {A B : List Nk} {x : Nk} (h : (ids (A ++ x :: B)).Nodup) : restOf (A ++ x :: B) (firstP (x :: B)) = B.length + 1 := by
  have hx : ¬ x.1 ∈ ids A := fun hm => by
    obtain ⟨y, hy, e⟩ := List.mem_map.1 hm
    exact ids_ne h (.inl hy) e
  have e1 : (ids (A ++ x :: B)).idxOf x.1 = A.length := by
    unfold ids
    rw [List.map_append, List.idxOf_append, if_neg hx, List.map_cons, List.idxOf_cons_self, List.length_map]
    omega
  show (A ++ x :: B).length - (ids (A ++ x :: B)).idxOf x.1 = _
  rw [e1]
  simp
theorem restOf_less {A B : List Nk} {x : Nk} (h : (ids (A ++ x :: B)).Nodup) : restOf (A ++ x :: B) (firstP B) < restOf (A ++ x :: B) (firstP (x :: B)) := by
  rw [restOf_at h]
  cases B with
  | nil => exact Nat.lt_of_lt_of_le (Nat.lt_succ_self 0) (by simp)
  | cons y B =>
    have e : A ++ x :: y :: B = (A ++ [x]) ++ y :: B := by simp
    rw [e, restOf_at (by rw [← e]; exact h)]
    simp
/-- Blocks that lie as they lay. -/
def Kp (own : Nat → Prop) (w V : World) : Prop := ∀ k, own k → k < V.heap.size ∧ V.heap[k]? = w.heap[k]?
theorem Kp.step {own fp : Nat → Prop} {w V V' : World} (h : Kp own w V) (hg : Gr fp V V') (hf : ∀ k, fp k → k < V.heap.size ∧ ¬ own k) : Kp own w V' := fun k hk => ⟨Nat.lt_of_lt_of_le (h k hk).1 hg.size, (hg.block k (h k hk).1 fun hfk => (hf k hfk).2 hk).trans (h k hk).2⟩
theorem gr_drewN' (F : Nat → Prop) (w : World) (j : Nat) : Gr F w (w.drewN j) := ⟨rfl, rfl, rfl, Nat.le_refl _, fun _ _ _ => rfl⟩
/-- What is asked of the row of number k. -/
structure RowOf (b : Nat) (nd : Nat → Array Value) (tn sn : List Nk) (m : Int) (bm k off : Nat) (l : List Nk) : Prop where
  index : ∀ w : World, (Instr.index 204 (.agg #[.pointer (some ⟨b, 2, none⟩), .pointer (some ⟨b, 5, none⟩)]) (.int .i64 k)).run Tryz.prog w = .ok (.pointer (some ⟨b, off, none⟩)) w
  first : (headR m bm tn sn)[off]? = some (firstP l)
  chain : Chain b off nd l
  nodup : (ids l).Nodup
  sub : ∀ y ∈ l, y.1 ∈ ids (tn ++ sn)
  told : toldK tn sn (k + 1) = toldK tn sn k ++ keysN l
  pre : toldK tn sn k ++ keysN l <+: keysN (tn ++ sn)
theorem row_of {b : Nat} {nd : Nat → Array Value} {tn sn : List Nk} {m : Int} {bm k : Nat} (lk : Lk b nd (ids (tn ++ sn)) tn sn) (hk : k < 2) : ∃ off l, RowOf b nd tn sn m bm k off l := by
  have h : k = 0 ∨ k = 1 := by omega
  rcases h with rfl | rfl
  · refine ⟨2, tn, ⟨fun w => by kernel_rfl, rfl, lk.t, nodup_left lk.nodup, fun y hy => lk.sub y (List.mem_append_left _ hy), by simp [toldK], ?_⟩⟩
    show [] ++ keysN tn <+: _
    unfold keysN
    rw [List.nil_append, List.map_append]
    exact List.prefix_append _ _
  · refine ⟨5, sn, ⟨fun w => by kernel_rfl, rfl, lk.s, nodup_right lk.nodup, fun y hy => lk.sub y (List.mem_append_right _ hy), by simp [toldK, keysN], ?_⟩⟩
    show keysN tn ++ keysN sn <+: _
    unfold keysN
    rw [List.map_append]
    exact List.prefix_refl _
theorem pre_len {p q l : List ByteArray} {x : ByteArray} {r : List ByteArray} {N : Nat} (h : p ++ (q ++ x :: r) <+: l) (hl : l.length = N) : (p ++ q).length < N := by
  have := h.length_le
  simp at this ⊢
  omega
set_option maxRecDepth 100000 in
set_option maxHeartbeats 4000000 in
theorem keys_seq (n : Nat) (hn : 1 ≤ n) {w : World} {b bo bm : Nat} {m : Int} {D : DataW Value} {nd : Nat → Array Value} {tn sn : List Nk} (hq : (lsPart m b bm D nd tn sn).q w) (hlt : ∀ k, (lsPart m b bm D nd tn sn).own k → k < w.heap.size) (hbo : w.heap[bo]? = some (.cells #[.pointer (some ⟨b, 0, none⟩)] 74)) (lk : Lk b nd (ids (tn ++ sn)) tn sn) :
    SeqSep Fence.wide n Tryz.prog 136 #[.pointer (some ⟨bo, 0, none⟩)] keyEnc (fun k => (lsPart m b bm D nd tn sn).own k ∨ k = bo) (fun xs => xs = keysN (tn ++ sn)) (fun pre => pre <+: keysN (tn ++ sn)) (tn.length + sn.length) w := by
  intro l J Jx fp0 W hW hJ hJx hfp hY h0
  have hbl : bo < w.heap.size := (Array.getElem?_eq_some_iff.1 hbo).1
  have K0 : Kp (fun k => (lsPart m b bm D nd tn sn).own k ∨ k = bo) w W := fun k hk => by
    have hk' : k < w.heap.size := hk.elim (hlt k) fun e => e ▸ hbl
    exact ⟨Nat.lt_of_lt_of_le hk' hW.size, hW.block k hk'⟩
  have q_on : ∀ V, Kp (fun k => (lsPart m b bm D nd tn sn).own k ∨ k = bo) w V → (lsPart m b bm D nd tn sn).q V := fun V hV => (lsPart m b bm D nd tn sn).on w V hq fun k hk => (hV k (.inl hk)).2
  have c0 : W.cell? ⟨bo, 0, none⟩ = some (.pointer (some ⟨b, 0, none⟩)) := box_cell ((K0 bo (.inr rfl)).2.trans hbo) rfl
  refine callsIn_of_wp Tryz.func136 rfl trivial ?_ rfl
  simp only [Tryz.ntmps136, List.size_toArray, List.length_cons, List.length_nil, Nat.reduceAdd, Nat.reduceSub, Array.replicate_succ, Array.replicate_zero, List.push_toArray, List.append_toArray, List.nil_append, List.cons_append]
  gi_upto_region 0 with fail
  gi_big_quiet_th (fail)
  have K1 : Kp (fun k => (lsPart m b bm D nd tn sn).own k ∨ k = bo) w (W.drewN nq) := K0
  have h1 : J [] (W.drewN nq) fp0 := hJ _ _ _ _ h0 (gr_drewN' _ _ _) fun _ _ => rfl
  clear c0
  gi_wp2
  gi_loopw [13] (fun i wr => ∃ (k : Nat) (fp : Nat → Prop), k ≤ 2 ∧ i = .int .i64 k ∧ Kp (fun k => (lsPart m b bm D nd tn sn).own k ∨ k = bo) w wr ∧ J (toldK tn sn k) wr fp) (fun i _ => 2 - (intOf i).toNat)
  case atStart => exact ⟨0, fp0, Nat.zero_le _, rfl, K1, h1⟩
  case round =>
    clear h1 K1 h0 K0
    obtain ⟨k, fp, hk, rfl, K2, h2⟩ := hrel
    by_cases hk2 : k < 2
    · obtain ⟨off, L, R⟩ := row_of (m := m) (bm := bm) lk hk2
      have hix := R.index
      have c1 := box_cell (q_on _ K2).1 R.first
      have hki : (k : Int) < 2 := by omega
      have HT := hide R.told
      have HP := hide R.pre
      have HC := hide R.chain
      have HN := hide R.nodup
      have HS := hide R.sub
      clear R
      gi_wp2
      gi_loopw [5] (fun p wr => ∃ (A B : List Nk) (fp : Nat → Prop), L = A ++ B ∧ p = firstP B ∧ Kp (fun k => (lsPart m b bm D nd tn sn).own k ∨ k = bo) w wr ∧ J (toldK tn sn k ++ keysN A) wr fp) (fun p _ => restOf L p)
      case atStart => exact ⟨[], L, fp, rfl, rfl, K2, by simpa using h2⟩
      case round =>
        clear K2 h2 c1 hix
        obtain ⟨A, B, fp3, rfl, rfl, K3, h3⟩ := hrel
        cases B with
        | nil =>
          rw [first_nil]
          gi_wp2
          refine ⟨⟨k + 1, fp3, hk2, by go_num, K3, ?_⟩, by simp [intOf]; omega⟩
          have := HT.out
          rw [List.append_nil] at this
          rw [this]
          exact h3
        | cons x B =>
          have c2 : wr.cell? ⟨x.1, 0, none⟩ = some (.string x.2) := box_cell ((q_on _ K3).2.1.1 x.1 (HS.out x (by simp))) (by rw [HC.out A x B rfl]; rfl)
          have hpr : toldK tn sn k ++ (keysN A ++ x.2 :: keysN B) <+: keysN (tn ++ sn) := by simpa [keysN] using HP.out
          have hln := pre_len hpr (N := tn.length + sn.length) (by simp [keysN])
          obtain ⟨fn, tmps, assign, body, hy, hR⟩ := hY _ x.2 wr fp3 h3 hln
          have HM := hide (restOf_less HN.out)
          have hfp3 := hfp _ _ _ h3
          rw [first_cons]
          unfold keyEnc at hy
          gi_wp2
          refine hR.mono ?_
          rintro e W3 ⟨fp4, g4, -, ⟨rfl, h4⟩ | ⟨rfl, h4⟩⟩
          · have K4 := K3.step g4 hfp3
            have c3 : W3.cell? ⟨x.1, 3, none⟩ = some (firstP B) := box_cell ((q_on _ K4).2.1.1 x.1 (HS.out x (by simp))) (by rw [HC.out A x B rfl]; rfl)
            have h5 : J (toldK tn sn k ++ keysN (A ++ [x])) W3 fp4 := by simpa [keysN] using h4
            clear h4
            gi_wp2
            go_roundw
            case rel => exact ⟨A ++ [x], B, fp4, by simp, rfl, K4, h5⟩
            case measure => exact HM.out
          · have hp2 : toldK tn sn k ++ keysN A ++ [x.2] <+: keysN (tn ++ sn) := by
              refine List.IsPrefix.trans ?_ hpr
              exact ⟨keysN B, by simp⟩
            gi_wp2
            refine bodyPost_ret (results_none rfl _ _ _) rfl ?_
            exact ⟨⟨_, rfl⟩, .inr ⟨_, fp4, hp2, h4⟩⟩
    · obtain rfl : k = 2 := by omega
      gi_wp2
      go_end0
      exact ⟨⟨_, rfl⟩, .inl ⟨_, fp, rfl, h2⟩⟩
end Go.Proofs.YtckjjfkfapfdaaaGreat

namespace Go.Proofs.YtckjjfkfapfdaaaGreat
open Go.RowKit Go.Maps Go.Shelf

theorem SeqSep.wider {α : Type} {F : Fence} {n : Nat} {P : Program} {g : Nat} {lb : Array Value} {encs : α → Array Value} {own own' : Nat → Prop} {S Sp : List α → Prop} {N : Nat} {w : World} (h : SeqSep F n P g lb encs own S Sp N w) (ho : ∀ k, own k → own' k) : SeqSep F n P g lb encs own' S Sp N w :=
  fun l J Jx fp0 W hW hJ hJx hfp hY h0 => h l J Jx fp0 W hW hJ hJx (fun pre V fp hj k hk => ⟨(hfp pre V fp hj k hk).1, fun hk' => (hfp pre V fp hj k hk).2 (ho k hk')⟩) hY h0
theorem Law.putD {w0 W : World} {A : Part} (H : Law w0 W A) {D : Nat} (o : Obj) (hD : ¬ A.own D) (h0 : w0.heap.size ≤ D) : Law w0 (W.putObj D o) A := by
  have hg := gr_put (W := W) (F := fun k => k = D) o rfl
  exact ⟨Gr.below H.below hg (fun k hk => by omega), A.on _ _ H.q fun k hk => World.putObj_heap_other fun e => hD (by rw [← e]; exact hk), fun k hk => ⟨(H.lt k hk).1, Nat.lt_of_lt_of_le (H.lt k hk).2 hg.size⟩⟩
theorem Ls0.lt {w : World} {b : Nat} {own : Nat → Prop} {st : Sr} (h : Ls0 w b own st) : ∀ k, own k → k < w.heap.size := by
  obtain ⟨_, _, _, _, _, _, _, h3, _⟩ := h
  exact h3
theorem Ls0.keep {w w' : World} {b : Nat} {own : Nat → Prop} {st : Sr} (h : Ls0 w b own st) (hs : SameOn own w w') : Ls0 w' b own st := by
  obtain ⟨bm, D, nd, tn, sn, rfl, h2, h3, h4⟩ := h
  refine ⟨bm, D, nd, tn, sn, rfl, (lsPart (max st.most 0) b bm D nd tn sn).on w w' h2 hs, fun k hk => ?_, h4⟩
  have h5 := h3 k hk
  have h6 := hs k hk
  rw [Array.getElem?_eq_getElem h5] at h6
  exact (Array.getElem?_eq_some_iff.1 h6).1
theorem Ls0.grown {w w' : World} {b : Nat} {own : Nat → Prop} {st : Sr} (h : Ls0 w b own st) (hg : w.grownBy w' none) : Ls0 w' b own st := h.keep fun k hk => hg.block k (h.lt k hk) (by simp)
/-- Behind a call that lays a box. -/
structure Laid1 (V w1 : World) (o : Obj) : Prop where
  grown : V.grownBy w1 none
  size : w1.heap.size = V.heap.size + 1
  box : w1.heap[V.heap.size]? = some o
theorem laid1 (V : World) (o : Obj) : Laid1 V (V.alloc o) o := ⟨World.grownBy_alloc _ _ _, World.size_alloc _ _, World.alloc_heap_new V o⟩
set_option maxHeartbeats 1000000 in
theorem keysMk (b : Nat) (w : World) : Calls Tryz.prog 114 #[.pointer (some ⟨b, 0, none⟩)] w fun e w' => e = .returned (.func (.func 136) #[] #[.pointer (some ⟨w.heap.size, 0, none⟩)]) ∧ Laid1 w w' (.cells #[.pointer (some ⟨b, 0, none⟩)] 74) := by
  have hL := laid1 w (.cells #[.pointer (some ⟨b, 0, none⟩)] 74)
  go_enter Tryz.func114, Tryz.ntmps114
  go_wp2
  go_ret
  exact ⟨rfl, hL⟩
theorem keys_at {w V : World} {b bo : Nat} {own : Nat → Prop} {st : Sr} (h : Ls0 w b own st) (hV : w.grownBy V none) (hbo : V.heap[bo]? = some (.cells #[.pointer (some ⟨b, 0, none⟩)] 74)) (n : Nat) (hn : 1 ≤ n) :
    SeqSep Fence.wide n Tryz.prog 136 #[.pointer (some ⟨bo, 0, none⟩)] keyEnc (fun k => own k ∨ k = bo) (fun ys => ys = allR st) (fun pre => pre <+: allR st) (allR st).length V := by
  obtain ⟨bm, D, nd, tn, sn, rfl, h2, h3, h4⟩ := h.grown hV
  rw [h4.all]
  have := keys_seq n hn h2 h3 hbo h4.lk
  have e : (keysN (tn ++ sn)).length = tn.length + sn.length := by simp [keysN]
  rw [e]
  exact this
end Go.Proofs.YtckjjfkfapfdaaaGreat
