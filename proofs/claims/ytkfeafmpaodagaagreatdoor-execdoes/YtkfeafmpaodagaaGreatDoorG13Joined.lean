/- The contract of Free of package slab. Conditions: none. The contract of nextNo of package slab, and what its lists do. Conditions: none. The contract of Take of package slab. Conditions: none. The contracts of package slab, all of them. Conditions: none. -/
import Derived.Test.YtkfeafmpaodagaaGreatDoorG12Joined
import Derived.Deep.RegionLaw
import Derived.Laws.ResultCell
namespace Go.Proofs.YtkfeafmpaodagaaGreatDoor
set_option maxHeartbeats 16000000
set_option maxRecDepth 100000
section
open Go.RowKit Go.Maps
theorem jAb.set3 {F : Nat → Prop} {w0 w : World} {A B C R : jAd} (L : jAb F w0 w (A.and (B.and (C.and R)))) : jAb F w0 w (C.and (A.and (B.and R))):=L.rin.rot
theorem jAb.unset3 {F : Nat → Prop} {w0 w : World} {A B C R : jAd} (L : jAb F w0 w (C.and (A.and (B.and R)))) : jAb F w0 w (A.and (B.and (C.and R))):=L.rot.rin
theorem kLa {F : Nat → Prop} {w0 w w1 : World} {N S : jAd} {b bm k : Nat} {bud used : Int} {fs : Nat → Value} {ms : List Nat} {st : Sb} {no : Int} {v' : Value} {tmp : Obj} {t : TypeId} (hk : k < 6) (hin : ((k : Int),no) ∈ st.inn)
  (L : jAb F w0 w (N.and ((jAn b (.cells (jEn bud used fs ms bm) t)).and (S.and ((jD6 (· < 6) (jGm st fs)).and jAd.emp)))))
  (hown : w1.ownsRow 0 3 1 v' ((jBu st k).length + 1) (jIf (jBu st k) ++ [.int .i64 no])) (hgrow : (w.alloc tmp).grownBy w1 (fs k).ownBlock) (hat : v'.ownBlock = (fs k).ownBlock ∨ v'.ownBlock = some (w.alloc tmp).heap.size) :
  w1.cell? ⟨b,3 + k,none⟩ = some (fs k) ∧ w1.frozen? ⟨b,3 + k,none⟩ = false ∧ N.q w1 ∧ jAb F w0 (w1.setCell ⟨b,3 + k,none⟩ v') (N.and ((jAn b (.cells (jEn bud used (upd fs k v') ms bm) t)).and (S.and ((jD6 (· < 6) (jGm (jBj st ((k : Int),no)) (upd fs k v'))).and jAd.emp)))):=by
 have L1:=(L.rot4.pick k hk).app hown hgrow hat
 have L2:=L1.back.unrot4
 rw [kHx hin] at L2
 have L3:=L2.rot.setAt (3 + k) v'
 rw [jR6 _ _ _ _ _ _ hk] at L3
 exact ⟨((jB8 L2.rot.q.1).2.2.2 k hk).1,frozen_of_row w1 b _ _ _ L2.rot.q.1,L2.q.1,L3.rot⟩
theorem jZt {w : World} {b : Nat} {own : Nat → Prop} {st : Sb} (h : Sl0 w b own st) (hs : Small st 10000) (k : Nat) (no : Int) (hc : jJl ((k : Int),no)) (hk : k < 6) (hin : ((k : Int),no) ∈ st.inn) :
  Calls Tryz.prog 141 #[.pointer (some ⟨b,0,none⟩),.agg #[.int .i64 k,.int .i64 no]] w fun e w' => e = .returned (.int .i64 0) ∧ ∃ own',Sl0 w' b own' (jBj st ((k : Int),no)) ∧ Gr own w w' ∧ jBm w own own':=by
 obtain ⟨i0,hi,hz0,hz1,hz2⟩:=info_parts kKo
 have hbud : I64 st.bud:=by obtain ⟨_,_,_,_,_,_,_,_,hb⟩:=h;exact hb
 have hgood : jDo st:=by obtain ⟨_,_,_,_,_,_,_,hg,_⟩:=h;exact hg
 obtain ⟨bm,D,fs,T,L⟩:=h.law
 have L0:=L.box (.cells #[.int .i64 k,.int .i64 no] 92)
 obtain ⟨d0,d1⟩:=jCr L0.q.1
 have HK:=jAa (jHb ((k : Int),no) hc)
 have HI:=jAa (decide_eq_true hin)
 have hki : (k : Int) < 6:=by omega
 have hub:=jId hs
 have hb0:=jDk (k : Int)
 have hb1:=jGr (k : Int)
 obtain ⟨by_,hby⟩ : ∃ x,jAu (k : Int) = x:=⟨_,rfl⟩
 have hus : jBn (jBj st ((k : Int),no)) = jBn st - by_:=by
  rw [← hby]
  unfold jBn jBj
  rw [if_pos hin]
  exact jLt _ _ hin
 have hgn : (jBu st k).length ≤ 10000:=by
  unfold jBu
  rw [List.length_map]
  exact Nat.le_trans (List.length_filter_le _ _) hs.gone
 have HB:=jAa hby
 have HU:=jAa hus
 have HT:=jAa T
 have HG:=jAa hgood
 have HS : Hid ((jBj st ((k : Int),no)).bud = st.bud ∧ (jBj st ((k : Int),no)).made = st.made):=by
  show _ ∧ _
  unfold jBj
  split <;> exact ⟨rfl,rfl⟩
 have HM:=jAa (World.ownsMap.tidy L.q.2.1.1 jHl)
 rw [hby] at hb0 hb1
 clear hby hus h L
 obtain ⟨u,hu⟩ : ∃ u,jBn st = u:=⟨_,rfl⟩
 have e1 : wrap64 (u - by_) = u - by_:=jLw (by omega)
 go_enter Tryz.func141,Tryz.ntmps141
 go_upto_region 3 with (go_at_call 170;refine (jTz (Sl0.of L0.right HT.out HG.out hbud) ((k : Int),no) hc).mono ?_;rintro e w1 ⟨he,hg1⟩;rw [HI.out] at he;subst he;have L1:=(L0.step hg1).drew)
 clear d0 d1 L0
 obtain ⟨-,-,c14,-⟩:=jB8 L1.q.2.1.1
 obtain ⟨d0,d1⟩:=jCr L1.q.1
 go_region_held_law (fun w' => w'.cell? ⟨b,2,none⟩ = some (.map (some bm)) ∧ w'.cell? ⟨w.heap.size,0,none⟩ = some (.int .i64 k) ∧ w'.cell? ⟨w.heap.size,1,none⟩ = some (.int .i64 no)) (first | exact ⟨c14',d0',d1'⟩ | exact ⟨c14,d0,d1⟩) ((refine jZ3 _ rfl rfl _ _ 99 92 rfl 252 jHl Tryz.underlying99 _ bm _ D rfl L1.q.2.1.2.1.1 _ _ rfl HK.out ?_;intro w2 hown2 hturn2;have L2:=(L1.set3.mapTurn hown2 hturn2).unset3;obtain ⟨-,-,c14',-⟩:=jB8 L2.q.2.1.1;obtain ⟨d0',d1'⟩:=jCr L2.q.1))
 clear c14 d0 d1 c14' L1
 simp only [Act.put]
 go_upto_region 4 with fail
 go_cut [] from 14 to 30 (fun wx => ∃ v',jAb own w wx ((jAn w.heap.size (.cells #[.int .i64 k,.int .i64 no] 92)).and ((jAn b (.cells (jEn st.bud (jBn st) (upd fs k v') st.made bm) 104)).and ((setP bm (D.del (jM8 ((k : Int),no)))).and ((jD6 (· < 6) (jGm (jBj st ((k : Int),no)) (upd fs k v'))).and jAd.emp)))))
 case first =>
  have L2d:=L2.drew
  have L2a:=(L2.alloc (.cells #[.int .i64 no] 3)).drew
  clear d0' d1' L2 hown2 hturn2 hg1
  obtain ⟨d0,d1⟩:=jCr L2d.q.1
  have c2:=((jB8 L2d.q.2.1.1).2.2.2 k hk).1
  have hrow : w2.drew.ownsRow 0 3 1 (fs k) (jBu st k).length (jIf (jBu st k)):=(L2d.rot4.pick k hk).q.1
  obtain ⟨d0a,d1a⟩:=jCr L2a.q.1
  have c2a:=((jB8 L2a.q.2.1.1).2.2.2 k hk).1
  clear L2a
  go_region_law ((refine jFk _ 27 (by rfl) rfl _ _ 100 (by rfl) 0 3 i0 (.int .i64 0) 1 8 Tryz.underlying100 hi hz0 hz1 hz2 rfl (by decide) (fs k) _ _ (by rfl) (hrow.alloc _) ⟨_,0,none⟩ 1 1 [.int .i64 no] (by rfl) rfl (cell_one_new _ _ _) (by simp [Value.oneCell']) (by unfold maxLen;omega) (by omega) (Nat.zero_le _) ?_;intro v' w3 hown' hgrow hat;obtain ⟨g',cap',rfl⟩:=ownsRow_succ hown';obtain ⟨cc,ff,nq,L3⟩:=kLa hk hin L2d hown' hgrow hat;obtain ⟨d0b,d1b⟩:=jCr nq;replace L3:=jAa L3))
  all_goals
   clear d0b d1b nq cc ff hown' hgrow hat d0 d1 c2 d0a d1a c2a L2d hrow
   go_wp2_with fail
   go_meet
   exact ⟨_,L3.out⟩
 case rest =>
  obtain ⟨v',L3⟩:=hcut
  clear L2 d0' d1' hown2 hturn2
  have L3d:=L3.drew
  obtain ⟨d0,d1⟩:=jCr L3d.q.1
  obtain ⟨-,c1,-⟩:=jB8 L3d.q.2.1.1
  have f1:=frozen_of_row wc.drew b 1 _ _ L3d.q.2.1.1
  rw [hu] at c1
  have L4:=((L3.rot.setAt 1 (.int .i64 (u - by_))).rot).drew
  rw [jSi] at L4
  have e2 : IntKind.i64.wrap (u - by_) = u - by_:=by rw [IntKind.wrap_i64];omega
  clear L3 L3d
  go_upto_region 5 with fail
  go_region_with ((go_at_call 171;refine (jI1 (k : Int) _).mono ?_;rintro e w5 ⟨he,hw5⟩;rw [HB.out] at he;subst he;subst hw5))
  all_goals
   go_wp2
   go_ret
   refine ⟨rfl,_,Sl0.of (F:=own) (w0:=w) (bm:=bm) (D:=D.del (jM8 ((k : Int),no))) (fs:=upd fs k v') ?_ (kNo HT.out HG.out HM.out hc hin) (jVs HG.out _) (by rw [HS.out.1];exact hbud),L4.gr,?_⟩
   ·unfold jFm
    rw [HU.out,HS.out.1,HS.out.2,hu]
    exact L4.right
   ·unfold jFm
    rw [HU.out,HS.out.1,HS.out.2,hu]
    exact L4.right.grew
end
section
open Go.RowKit Go.Maps
theorem kJt {D : DataW Unit} {st st' : Sb} (T : jMx D st) (hm : Maps.Tidy D) {c : Ck} (hc : jJl c) (hnew : ¬ c ∈ st.inn) (hi : st'.inn = st.inn ++ [c]) : jMx (D.put (jM8 c) (.agg [])) st':=by
 have hk:=jHl.key (jHb c hc)
 refine ⟨fun d hd => ?_,?_⟩
 ·rw [hi]
  by_cases e : d = c
  ·subst e
   rw [has_put_same hm.isMap hk]
   exact (decide_eq_true (List.mem_append_right _ (List.mem_singleton.2 rfl))).symm
  ·rw [has_put_other (fun h => e (jWs hd hc h)),T.has d hd]
   exact decide_eq_decide.2 ⟨fun h => List.mem_append_left _ h,fun h => (List.mem_append.1 h).resolve_right fun h => e (List.mem_singleton.1 h)⟩
 ·rw [size_put hm,T.has c hc,decide_eq_false hnew,hi,List.length_append,T.size]
  simp
theorem jO4 {l : List Ck} {c : Ck} {j : Nat} (h : c.1 ≠ (j : Int)) : (l.erase c).filter (fun d => decide (d.1 = (j : Int))) = l.filter fun d => decide (d.1 = (j : Int)):=by
 induction l with
 | nil => rfl
 | cons d l ih =>
  by_cases e : d = c
  ·subst e
   rw [List.erase_cons_head,List.filter_cons_of_neg (by simp [h])]
  ·rw [List.erase_cons_tail (by simpa using e),List.filter_cons,List.filter_cons,ih]
theorem jQf {l : List Ck} {c : Ck} {k : Nat} (hn : l.Nodup) (h : (l.filter fun d => decide (d.1 = (k : Int))).getLast? = some c) : (l.erase c).filter (fun d => decide (d.1 = (k : Int))) = (l.filter fun d => decide (d.1 = (k : Int))).dropLast:=by
 have e1 : (l.erase c).filter (fun d => decide (d.1 = (k : Int))) = (l.filter fun d => decide (d.1 = (k : Int))).erase c:=by
  clear h
  induction l with
  | nil => rfl
  | cons d l ih =>
   rw [List.nodup_cons] at hn
   by_cases e : d = c
   ·subst e
    rw [List.erase_cons_head]
    by_cases hd : d.1 = (k : Int)
    ·rw [List.filter_cons_of_pos (by simp [hd]),List.erase_cons_head]
    ·rw [List.filter_cons_of_neg (by simp [hd])]
     exact (List.erase_of_not_mem fun hm => hn.1 (List.mem_filter.1 hm).1).symm
   ·rw [List.erase_cons_tail (by simpa using e),List.filter_cons,List.filter_cons,ih hn.2]
    split
    ·rw [List.erase_cons_tail (by simpa using e)]
    ·rfl
 rw [e1]
 have hn2:=hn.sublist (List.filter_sublist (p:=fun d => decide (d.1 = (k : Int))))
 generalize (l.filter fun d => decide (d.1 = (k : Int))) = m at *
 obtain ⟨m',rfl⟩ : ∃ m',m = m' ++ [c]:=by
  rw [List.getLast?_eq_some_iff] at h
  exact h
 have hc : ¬ c ∈ m':=fun hm => (List.nodup_append.1 hn2).2.2 c hm c (List.mem_singleton.2 rfl) rfl
 rw [List.erase_append_right _ hc]
 simp
theorem jVt {st : Sb} {k : Nat} {l : List Int} {no : Int} (h : jBu st k = l ++ [no]) : (st.gone.filter fun c => decide (c.1 = (k : Int))).getLast? = some ((k : Int),no):=by
 unfold jBu at h
 obtain ⟨a,c,e⟩ : ∃ a c,(st.gone.filter fun c => decide (c.1 = (k : Int))) = a ++ [c]:=by
  rcases List.eq_nil_or_concat (st.gone.filter fun c => decide (c.1 = (k : Int))) with e | ⟨a,c,e⟩
  ·rw [e] at h
   simp at h
  ·exact ⟨a,c,e.trans (List.concat_eq_append ..)⟩
 have hc : c ∈ st.gone.filter fun c => decide (c.1 = (k : Int)):=by rw [e];simp
 rw [e,List.map_append] at h
 have h2 : c.2 = no:=by
  have:=(List.append_inj' h rfl).2
  simpa using this
 have h1 : c.1 = (k : Int):=of_decide_eq_true (List.mem_filter.1 hc).2
 rw [e,List.getLast?_append]
 simp
 exact Prod.ext h1 h2
theorem kGt {st : Sb} {k : Nat} (h : jBu st k = []) : jBh st k = ((k : Int),((st.made.getD k 0 : Nat) : Int)) ∧ ¬ jBh st k ∈ st.gone:=by
 unfold jBu at h
 have h:=List.map_eq_nil_iff.1 h
 have e : jBh st k = ((k : Int),((st.made.getD k 0 : Nat) : Int)):=by
  unfold jBh
  rw [h]
  rfl
 refine ⟨e,fun hm => ?_⟩
 rw [e] at hm
 exact (List.filter_eq_nil_iff.1 h) _ hm (decide_eq_true rfl)
theorem jUm {st : Sb} {k : Nat} {l : List Int} {no : Int} (h : jBu st k = l ++ [no]) : jBh st k = ((k : Int),no) ∧ ((k : Int),no) ∈ st.gone:=by
 have h1:=jVt h
 refine ⟨by unfold jBh;rw [h1];rfl,?_⟩
 exact (List.mem_filter.1 (List.mem_of_getLast? h1)).1
theorem kOw {st : Sb} {k : Nat} {c : Ck} (h : ¬ c ∈ st.gone) : (jC7 st k c).bud = st.bud ∧ (jC7 st k c).inn = st.inn ++ [c] ∧ (jC7 st k c).made = st.made.set k (st.made.getD k 0 + 1) ∧ ∀ j,jBu (jC7 st k c) j = jBu st j:=by
 unfold jC7 jBu
 rw [if_neg h]
 exact ⟨rfl,rfl,rfl,fun _ => rfl⟩
theorem kOu {st : Sb} {k : Nat} {l : List Int} {no : Int} (G : jDo st) (h : jBu st k = l ++ [no]) : (jC7 st k ((k : Int),no)).bud = st.bud ∧ (jC7 st k ((k : Int),no)).inn = st.inn ++ [((k : Int),no)] ∧ (jC7 st k ((k : Int),no)).made = st.made ∧ ∀ j,jBu (jC7 st k ((k : Int),no)) j = if j = k then l else jBu st j:=by
 have h1:=jVt h
 have h2:=(jUm h).2
 have hn:=(List.nodup_append.1 G.nodup).2.1
 unfold jC7
 rw [if_pos h2]
 refine ⟨rfl,rfl,rfl,fun j => ?_⟩
 show ((st.gone.erase ((k : Int),no)).filter fun c => decide (c.1 = (j : Int))).map (·.2) = _
 by_cases e : j = k
 ·subst e
  rw [if_pos rfl,jQf hn h1,List.map_dropLast]
  show (jBu st j).dropLast = l
  rw [h]
  simp
 ·rw [if_neg e,jO4 (fun e2 => e (by have e3 : (k : Int) = (j : Int):=e2;omega))]
  rfl
theorem kJ5 {st st' : Sb} {fs : Nat → Value} (h : ∀ j,jBu st' j = jBu st j) : jGm st fs = jGm st' fs:=by
 funext j
 unfold jGm
 rw [h]
theorem kJ1 {st st' : Sb} {fs : Nat → Value} {k : Nat} {v : Value} {l : List Int} (h : ∀ j,jBu st' j = if j = k then l else jBu st j) : jJt (jGm st fs) k (jB2 0 3 1 v l.length (jIf l)) = jGm st' (upd fs k v):=by
 funext j
 unfold jJt jGm upd
 rw [h]
 by_cases e : j = k
 ·subst e
  simp
 ·simp [e]
theorem kDg (bud used : Int) (fs : Nat → Value) (ms : List Nat) (bm k : Nat) (hk : k < 6) (hl : ms.length = 6) (m : Nat) : (jEn bud used fs ms bm).setIfInBounds (9 + k) (.int .i64 (m : Int)) = jEn bud used fs (ms.set k m) bm:=by
 have : k = 0 ∨ k = 1 ∨ k = 2 ∨ k = 3 ∨ k = 4 ∨ k = 5:=by omega
 rcases this with rfl | rfl | rfl | rfl | rfl | rfl <;> simp [jEn,List.getD,hl]
theorem jAb.unset4 {F : Nat → Prop} {w0 w : World} {A B C E : jAd} (L : jAb F w0 w (A.and (B.and (C.and E)))) : jAb F w0 w (C.and (A.and (B.and E))):=L.rin.rot
theorem jAb.reset4 {F : Nat → Prop} {w0 w : World} {A B C E : jAd} (L : jAb F w0 w (C.and (A.and (B.and E)))) : jAb F w0 w (A.and (B.and (C.and E))):=L.rot.rin
def jTr (b bm : Nat) (D : DataW Unit) (fs : Nat → Value) (st st' : Sb) : jAd :=
 (jAn b (.cells (jEn st.bud (jBn st) fs st'.made bm) 104)).and ((setP bm D).and ((jD6 (· < 6) (jGm st' fs)).and jAd.emp))
theorem jV3 {F : Nat → Prop} {w0 w : World} {b bm k : Nat} {D : DataW Unit} {fs : Nat → Value} {st : Sb} (L : jAb F w0 w (jFm b bm D fs st)) (G : jDo st) (hs : Small st 10000) (hk : k < 6) (hg : jBu st k = []) :
  Calls Tryz.prog 213 #[.pointer (some ⟨b,0,none⟩),.int .i64 k] w fun e w' => e = .returned (.int .i64 (jBh st k).2) ∧ ∃ fs',jAb F w0 w' (jTr b bm D fs' st (jC7 st k (jBh st k))):=by
 have hki : (k : Int) < 6:=by omega
 obtain ⟨hn,hng⟩:=kGt hg
 have HA:=jAa (kOw (k:=k) hng)
 have hr : w.ownsRow 0 3 1 (fs k) (jBu st k).length (jIf (jBu st k)):=L.q.2.1.2.1.1.1 k hk
 rw [hg] at hr
 obtain ⟨a,cap,hv⟩:=jAr hr
 have hm : st.made.getD k 0 ≤ 10000:=by
  by_cases h : k < st.made.length
  ·simp only [List.getD,List.getElem?_eq_getElem h,Option.getD_some]
   exact hs.made _ (List.getElem_mem h)
  ·simp [List.getD,List.getElem?_eq_none (Nat.le_of_not_lt h)]
 obtain ⟨m,hme⟩ : ∃ m,st.made.getD k 0 = m:=⟨_,rfl⟩
 have HN:=jAa hn
 rw [hme] at hm HN HA
 have c3:=((jB8 L.q.1).2.2.2 k hk).1
 have c9:=((jB8 L.q.1).2.2.2 k hk).2
 rw [hv] at c3
 rw [hme] at c9
 have Ld:=L.drew
 have c9':=((jB8 Ld.q.1).2.2.2 k hk).2
 rw [hme] at c9'
 have f9:=frozen_of_row w.drew b (9 + k) _ _ Ld.q.1
 have L2:=L.drew.setAt (9 + k) (.int .i64 ((m + 1 : Nat) : Int))
 rw [kDg _ _ _ _ _ _ hk G.len] at L2
 have L3:=jAa L2
 have e1 : wrap64 ((m : Int) + 1) = ((m + 1 : Nat) : Int):=(jLw (by omega)).trans (by omega)
 have e2 : IntKind.i64.wrap ((m : Int) + 1) = ((m + 1 : Nat) : Int):=by rw [IntKind.wrap_i64];omega
 clear L2 L Ld hr hn hng
 go_enter Tryz.func213,Tryz.ntmps213
 go_upto_region 4 with fail
 go_region_with fail
 all_goals
  go_wp2
  go_ret
  refine ⟨by rw [HN.out];rfl,fs,?_⟩
  unfold jTr
  rw [HA.out.2.2.1,← kJ5 HA.out.2.2.2]
  exact L3.out
theorem jWb {F : Nat → Prop} {w0 w : World} {b bm k : Nat} {D : DataW Unit} {fs : Nat → Value} {st : Sb} {l : List Int} {no : Int} (L : jAb F w0 w (jFm b bm D fs st)) (G : jDo st) (hs : Small st 10000) (hk : k < 6) (hg : jBu st k = l ++ [no]) :
  Calls Tryz.prog 213 #[.pointer (some ⟨b,0,none⟩),.int .i64 k] w fun e w' => e = .returned (.int .i64 (jBh st k).2) ∧ ∃ fs',jAb F w0 w' (jTr b bm D fs' st (jC7 st k (jBh st k))):=by
 have hki : (k : Int) < 6:=by omega
 have hn:=(jUm hg).1
 have HA:=jAa (kOu G hg)
 rw [hn]
 have hgn : (jBu st k).length ≤ 10000:=by
  unfold jBu
  rw [List.length_map]
  exact Nat.le_trans (List.length_filter_le _ _) hs.gone
 obtain ⟨n,hnl⟩ : ∃ n,l.length = n:=⟨_,rfl⟩
 have hlen : (jBu st k).length = n + 1:=by rw [hg,List.length_append,hnl];rfl
 have hr : w.ownsRow 0 3 1 (fs k) (n + 1) (jIf l ++ [.int .i64 no]):=by
  have:=L.q.2.1.2.1.1.1 k hk
  have h2 : w.ownsRow 0 3 1 (fs k) (jBu st k).length (jIf (jBu st k)):=this
  rw [hlen,hg,jRl] at h2
  exact h2
 have hil : (jIf l).length = n:=by unfold jIf;rw [List.length_map,hnl]
 obtain ⟨g,cap,hv⟩:=jCk hr (Nat.succ_pos n)
 rw [hv] at hr
 have hcap:=jGe hr
 have hbig : n ≤ 10000:=by omega
 have c3:=((jB8 L.q.1).2.2.2 k hk).1
 rw [hv] at c3
 have Ld:=L.drew
 have f3:=frozen_of_row w.drew b (3 + k) _ _ Ld.q.1
 have L2:=(L.setAt (3 + k) (.slice (some ⟨g,0,none⟩) n cap)).drew
 have hrow2 : ((w.setCell ⟨b,3 + k,none⟩ (.slice (some ⟨g,0,none⟩) n cap)).drew).ownsRow 0 3 1 (fs k) (jBu st k).length (jIf (jBu st k)):=L2.q.2.1.2.1.1.1 k hk
 have hrow3:=hrow2
 rw [hlen,hg,jRl,hv] at hrow3
 have cg : ((w.setCell ⟨b,3 + k,none⟩ (.slice (some ⟨g,0,none⟩) n cap)).drew).cell? ⟨g,n,none⟩ = some (.int .i64 no):=by
  have:=hrow3.cells (g:=g) rfl n (.int .i64 no) (by rw [List.getElem?_append_right (by omega),hil];simp)
  have e : (⟨g,0,none⟩ : Addr).add n = ⟨g,n,none⟩:=by
   unfold Addr.add
   by_cases h : n = 0
   ·subst h;rfl
   ·simp [h]
  rw [e] at this
  exact this
 have P3:=L2.unset4.pick k hk
 have P4 : jAb F w0 _ ((jB2 0 3 1 (.slice (some ⟨g,0,none⟩) n cap) l.length (jIf l)).and _):=P3.weak1 (A':=jB2 0 3 1 (.slice (some ⟨g,0,none⟩) n cap) l.length (jIf l)) (fun _ => by rw [hnl];exact ownsRow_pop (by omega) hrow3) (fun j hj => by
  show (fs k).ownBlock = some j
  rw [hv]
  exact hj)
 have P5:=P4.back
 rw [kJ1 HA.out.2.2.2] at P5
 have P6:=P5.reset4
 rw [jR6 _ _ _ _ _ _ hk] at P6
 have L3:=jAa P6
 have e1 : wrap64 (((n + 1 : Nat) : Int) - 1) = (n : Int):=(jLw (by omega)).trans (by omega)
 have e2 : IntKind.i64.wrap (((n + 1 : Nat) : Int) - 1) = (n : Int):=by rw [IntKind.wrap_i64];omega
 clear P3 P4 P5 P6 L2 L Ld hr hn hrow2 hrow3
 go_enter Tryz.func213,Tryz.ntmps213
 go_upto_region 7 with fail
 go_region_with fail
 all_goals
  go_wp2
  go_ret
  refine ⟨rfl,upd fs k (.slice (some ⟨g,0,none⟩) n cap),?_⟩
  unfold jTr
  rw [HA.out.2.2.1]
  exact L3.out
theorem kL6 {F : Nat → Prop} {w0 w : World} {b bm k : Nat} {D : DataW Unit} {fs : Nat → Value} {st : Sb} (L : jAb F w0 w (jFm b bm D fs st)) (G : jDo st) (hs : Small st 10000) (hk : k < 6) :
  Calls Tryz.prog 213 #[.pointer (some ⟨b,0,none⟩),.int .i64 k] w fun e w' => e = .returned (.int .i64 (jBh st k).2) ∧ ∃ fs',jAb F w0 w' (jTr b bm D fs' st (jC7 st k (jBh st k))):=by
 rcases List.eq_nil_or_concat (jBu st k) with e | ⟨a,c,e⟩
 ·exact jV3 L G hs hk e
 ·exact jWb L G hs hk (e.trans (List.concat_eq_append ..))
end
section
open Go.RowKit Go.Maps
theorem jW2 {W : World} {r : Nat} {x y e : Value} {tmps : Array Value} {Post : Ending → World → Prop} (hb : W.heap[r]? = some (.cells #[x,y] 92 (0,0))) (h4 : tmps.getD 4 undef = .pointer (some ⟨r,0,none⟩)) (h5 : tmps.getD 5 undef = e)
  (h : Post (.returned (.tuple #[.agg #[x,y],e])) W) : bodyPost Tryz.prog Tryz.f195 Post .ret { tmps:=tmps,defers:=[] } W:=by
 have hl:=run_loadVar_row (P:=Tryz.prog) W r _ 92 _ _ _ hb Tryz.underlying92 rfl (by kernel_rfl)
 have hr : (results Tryz.f195 tmps).run Tryz.prog W = .ok (.tuple #[.agg #[x,y],e]) W:=by
  rw [results_cell_tmp rfl,h4,h5]
  simp only [asAddr,Sem.run_pure,Result.andThen_ok,hl]
 exact bodyPost_ret hr rfl h
theorem jAb.deep {F : Nat → Prop} {w0 w w' : World} {A A' R : jAd} (H : jAb F w0 w (A.and R)) (M : jAb A.own w w' A') : jAb F w0 w' (A'.and R):=H.turn M.q (fun k hk => (M.lt k hk).1) M.gr M.grew
theorem jAb.inside {F : Nat → Prop} {w0 w : World} {A R : jAd} (H : jAb F w0 w (A.and R)) : jAb A.own w w A:=jAb.start H.q.1 fun k hk => (H.lt k (.inl hk)).1
theorem kK1 (st : Sb) (k : Nat) (c : Ck) (hc : c.1 = (k : Int)) : jBn (jC7 st k c) = jBn st + jAu (k : Int) ∧ (jC7 st k c).bud = st.bud:=by
 unfold jC7 jBn
 split <;> exact ⟨by rw [jR1,jRi,hc],rfl⟩
theorem kMx (st : Sb) (k : Nat) (c : Ck) : (jC7 st k c).inn = st.inn ++ [c]:=by
 unfold jC7
 split <;> rfl
theorem kAp {w : World} {b k : Nat} {own : Nat → Prop} {st : Sb} (h : Sl0 w b own st) (hs : Small st 10000) (size : Int) (hcl : jA1 size = k) (her : jBo size = 0) (hfit : jB3 st size 0 = true) (hG : jDo (jC7 st k (jBh st k))) (hok : jJl (jBh st k)) :
  Calls Tryz.prog 195 #[.pointer (some ⟨b,0,none⟩),.int .i64 size] w fun e w' => e = .returned (.tuple #[.agg #[.int .i64 k,.int .i64 (jBh st k).2],.int .i64 0]) ∧ ∃ own',Sl0 w' b own' (jC7 st k (jBh st k)) ∧ Gr own w w' ∧ jBm w own own':=by
 have hk : k < 6:=by rw [← hcl];exact jNd size
 have hgood : jDo st ∧ I64 st.bud:=by obtain ⟨_,_,_,_,_,_,_,hg,hb⟩:=h;exact ⟨hg,hb⟩
 have hc1:=jIu st k
 have hnew:=jXh hgood.1 k
 obtain ⟨hus,hbu⟩:=kK1 st k (jBh st k) hc1
 have hin:=kMx st k (jBh st k)
 obtain ⟨bm,D,fs,T,L⟩:=h.law
 have HF:=fun W (h : Sl0 W b (jFm b bm D fs st).own st) => jRa h hs size 0 ⟨by decide,by decide⟩
 have L0:=(L.box (.cells #[.int .i64 0,.int .i64 0] 92))
 have hub:=jId hs
 have hb0:=jDk (k : Int)
 have hb1:=jGr (k : Int)
 obtain ⟨by_,hby⟩ : ∃ x,jAu (k : Int) = x:=⟨_,rfl⟩
 rw [hby] at hb0 hb1 hus
 obtain ⟨no,hno⟩ : ∃ x,(jBh st k).2 = x:=⟨_,rfl⟩
 have hck : jBh st k = ((k : Int),no):=Prod.ext hc1 hno
 have HT2:=jAa (kJt T (World.ownsMap.tidy L.q.2.1.1 jHl) hok hnew hin)
 have hsz : Maps.size D < maxLen:=by
  rw [T.size]
  have:=hs.inn
  unfold maxLen
  omega
 have HK:=jAa (jHb ((k : Int),no) (hck ▸ hok))
 unfold ckV at HK
 have HN:=jAa (fun (W : World) (LW : jAb (jFm b bm D fs st).own W W (jFm b bm D fs st)) => kL6 LW hgood.1 hs hk)
 rw [hno] at HN ⊢
 have HC:=jAa hcl
 have HE:=jAa her
 have HP:=jAa hfit
 have HB:=jAa hby
 have HU:=jAa hus
 have HBu:=jAa hbu
 have HG:=jAa hG
 have HI : Hid (jBh st k = ((k : Int),no)):=hck
 obtain ⟨u,hu⟩ : ∃ u,jBn st = u:=⟨_,rfl⟩
 have e1 : wrap64 (u + by_) = u + by_:=jLw (by omega)
 have e2 : IntKind.i64.wrap (u + by_) = u + by_:=by rw [IntKind.wrap_i64];omega
 have HFits:=jAa HF
 have HTold:=jAa T
 have HGd:=jAa hgood
 clear hcl her hfit hby hus hbu hG hck hnew hin hok HF T hgood h L hc1
 go_enter Tryz.func195,Tryz.ntmps195
 go_upto_region 7 with (first
  | (go_at_call 162;refine (jGk size _).mono ?_;rintro e w1 ⟨he,rfl⟩;rw [HC.out,HE.out] at he;subst he)
  | (go_at_call 192;refine (HFits.out _ (Sl0.of L0.right HTold.out HGd.out.1 HGd.out.2)).mono ?_;rintro e w2 ⟨he,hg2⟩;rw [HP.out] at he;subst he;have L1:=L0.step hg2)
  | (go_at_call 213;refine (HN.out _ L1.comm.inside).mono ?_;rintro e w3 ⟨he,fs',M⟩;subst he;have L2:=(L1.comm.deep M).comm;have L3:=L2.box (.cells #[.int .i64 k,.int .i64 no] 92)))
 clear L0 L1 hg2 M L2
 have L4:=L3.drew
 unfold jTr at L4
 obtain ⟨-,-,c2,-⟩:=jB8 L4.q.2.1.2.1.1
 obtain ⟨d0,d1⟩:=jCr L4.q.1
 have hm4 : (w3.alloc (.cells #[.int .i64 k,.int .i64 no] 92)).drew.ownsMap Tryz.prog 92 unitElem bm (Maps.size D) D:=L4.rot4.q.1
 obtain ⟨w5,hrun5,hown5,hturn5⟩:=hm4.store jHl Tryz.underlying99 hsz HK.out unitElem_mk
 have L5:=(L4.rot4.mapTurn hown5 hturn5).unrot4
 obtain ⟨-,-,c2',-⟩:=jB8 L5.q.2.1.2.1.1
 obtain ⟨d0',d1'⟩:=jCr L5.q.1
 clear L4 hown5 hturn5 hm4 L3
 replace L5:=jAa L5
 go_region_held (fun w' => w'.cell? ⟨b,2,none⟩ = some (.map (some bm)) ∧ w'.cell? ⟨w3.heap.size,0,none⟩ = some (.int .i64 k) ∧ w'.cell? ⟨w3.heap.size,1,none⟩ = some (.int .i64 no)) (first | exact ⟨c2',d0',d1'⟩ | exact ⟨c2,d0,d1⟩) (fail)
 replace L5:=L5.out
 clear c2 d0 d1 c2' d0' d1' hrun5
 have L5d:=L5.drew
 obtain ⟨-,c1,-⟩:=jB8 L5d.q.2.1.2.1.1
 have f1:=frozen_of_row w5.drew b 1 _ _ L5d.q.2.1.2.1.1
 rw [hu] at c1
 have L6:=((L5.rin.rot.setAt 1 (.int .i64 (u + by_))).rot.rin).drew
 rw [jSi] at L6
 clear L5 L5d
 go_upto_region 8 with fail
 go_region_with ((go_at_call 171;refine (jI1 (k : Int) _).mono ?_;rintro e w7 ⟨he,hw7⟩;rw [HB.out] at he;subst he;subst hw7))
 all_goals
  generalize hWW : (w5.setCell ⟨b,1,none⟩ (.int .i64 (u + by_))).drew = WW at *
  obtain ⟨d0,d1⟩:=jCr L6.q.1
  obtain ⟨x0,x1⟩:=jCr L6.q.2.1.1
  have r2 : WW.frozen? ⟨w.heap.size,0,none⟩ = false:=frozen_of_row _ _ _ _ _ L6.q.2.1.1
  have r3 : WW.frozen? ⟨w.heap.size,1,none⟩ = false:=frozen_of_row _ _ _ _ _ L6.q.2.1.1
  have L7:=(L6.rot.setAt 0 (.int .i64 k)).setAt 1 (.int .i64 no)
  have L8:=L7.right.right
  go_wp2
  have L9 : jAb own w ((WW.setCell ⟨w.heap.size,0,none⟩ (.int .i64 k)).setCell ⟨w.heap.size,1,none⟩ (.int .i64 no)) (jFm b bm (D.put (jM8 ((k : Int),no)) (.agg [])) fs' (jC7 st k (jBh st k))):=by
   unfold jFm
   rw [HU.out,HBu.out,hu]
   exact L8
  refine jW2 (r:=w.heap.size) (x:=.int .i64 k) (y:=.int .i64 no) L7.q.1 rfl rfl ⟨rfl,_,Sl0.of L9 (by have:=HT2.out;rw [HI.out] at this;rw [HI.out];exact this) HG.out (by rw [HBu.out];exact HGd.out.2),L9.gr,L9.grew⟩
theorem fits0 {st : Sb} {n : Nat} (hs : Small st n) (size : Int) : jB3 st size 0 = decide (size ≤ 2048 ∧ jBn st + jAu (jA1 size) ≤ st.bud):=by
 have:=jId hs
 unfold jB3
 exact decide_eq_decide.2 ⟨fun h => ⟨h.1,by omega⟩,fun h => ⟨h.1,Int.le_refl _,this.1,by omega⟩⟩
theorem kJn {w : World} {b : Nat} {own : Nat → Prop} {st : Sb} (h : Sl0 w b own st) (hs : Small st 10000) (size : Int) :
  Calls Tryz.prog 195 #[.pointer (some ⟨b,0,none⟩),.int .i64 size] w fun e w' => e = .returned (.tuple #[ckV (jBp st size),.int .i64 (jB1 st size)]) ∧ ∃ own',Sl0 w' b own' (takeS st size) ∧ Gr own w w' ∧ jBm w own own':=by
 have hgood : jDo st ∧ I64 st.bud:=by obtain ⟨_,_,_,_,_,_,_,hg,hb⟩:=h;exact ⟨hg,hb⟩
 by_cases h1 : size ≤ 2048
 ·have her : jBo size = 0:=by unfold jBo;rw [if_pos h1]
  by_cases h2 : jBn st + jAu (jA1 size) ≤ st.bud
  ·have hte : jB1 st size = 0:=by unfold jB1;rw [if_pos h1,if_pos h2]
   have hck : jBp st size = jBh st (jA1 size):=by unfold jBp;rw [if_pos hte]
   have hst : takeS st size = jC7 st (jA1 size) (jBh st (jA1 size)):=by unfold takeS;rw [if_pos hte]
   have hG:=jUg hgood.1 size
   rw [hst] at hG
   have hm : ∀ j : Nat,st.made.getD j 0 ≤ 10000:=fun j => by
    by_cases h : j < st.made.length
    ·simp only [List.getD,List.getElem?_eq_getElem h,Option.getD_some]
     exact hs.made _ (List.getElem_mem h)
    ·simp [List.getD,List.getElem?_eq_none (Nat.le_of_not_lt h)]
   have hok : jJl (jBh st (jA1 size)):=by
    have hc1:=jIu st (jA1 size)
    have hc6:=jNd size
    refine ⟨by rw [hc1];unfold I64;omega,?_⟩
    have hm2:=hm (jA1 size)
    rcases jH5 st (jA1 size) with ⟨hin,_⟩ | ⟨_,e⟩
    ·obtain ⟨_,_,a3,a4⟩:=hgood.1.cls _ (List.mem_append_right _ hin)
     have hm3:=hm (jBh st (jA1 size)).1.toNat
     unfold I64
     omega
    ·rw [e]
     unfold I64
     simp only
     omega
   rw [hte,hck,hst]
   refine (kAp h hs size rfl her ((fits0 hs size).trans (decide_eq_true ⟨h1,h2⟩)) hG hok).mono ?_
   rintro e w' ⟨he,h⟩
   refine ⟨?_,h⟩
   rw [he]
   unfold ckV
   rw [jIu]
  ·have hte : jB1 st size = 5:=by unfold jB1;rw [if_pos h1,if_neg h2]
   have hck : jBp st size = (0,0):=by unfold jBp;rw [if_neg (by rw [hte];decide)]
   have hst : takeS st size = st:=by unfold takeS;rw [if_neg (by rw [hte];decide)]
   rw [hte,hck,hst]
   have HP:=jAa ((fits0 hs size).trans (decide_eq_false (fun h => h2 h.2)))
   obtain ⟨bm,D,fs,rfl,q2,q3,T,G,I⟩:=h
   have L0:=(jAb.start q2 q3).box (.cells #[.int .i64 0,.int .i64 0] 92)
   have HF:=jAa (fun W (h : Sl0 W b (jFm b bm D fs st).own st) => jRa h hs size 0 ⟨by decide,by decide⟩)
   obtain ⟨c,hc⟩ : ∃ c,jA1 size = c:=⟨_,rfl⟩
   have HC:=jAa hc
   have HE:=jAa her
   have HTold:=jAa T
   have HG:=jAa G
   clear hc her hgood h2 hte hck hst q2 q3 T G
   go_enter Tryz.func195,Tryz.ntmps195
   go_upto_region 5 with (first
    | (go_at_call 162;refine (jGk size _).mono ?_;rintro e w1 ⟨he,rfl⟩;rw [HC.out,HE.out] at he;subst he)
    | (go_at_call 192;refine (HF.out _ (Sl0.of L0.right HTold.out HG.out I)).mono ?_;rintro e w2 ⟨he,hg2⟩;rw [HP.out] at he;subst he;have L1:=L0.step hg2))
   obtain ⟨x0,x1⟩:=jCr L1.q.1
   have r2 : w2.frozen? ⟨w.heap.size,0,none⟩ = false:=frozen_of_row _ _ _ _ _ L1.q.1
   have r3 : w2.frozen? ⟨w.heap.size,1,none⟩ = false:=frozen_of_row _ _ _ _ _ L1.q.1
   have L7:=(L1.setAt 0 (.int .i64 0)).setAt 1 (.int .i64 0)
   go_wp2
   exact jW2 (r:=w.heap.size) (x:=.int .i64 0) (y:=.int .i64 0) L7.q.1 rfl rfl ⟨rfl,_,Sl0.of L7.right HTold.out HG.out I,L7.gr,L7.right.grew⟩
 ·have her : jBo size = 4:=by unfold jBo;rw [if_neg h1]
  have hte : jB1 st size = 4:=by unfold jB1;rw [if_neg h1]
  have hck : jBp st size = (0,0):=by unfold jBp;rw [if_neg (by rw [hte];decide)]
  have hst : takeS st size = st:=by unfold takeS;rw [if_neg (by rw [hte];decide)]
  rw [hte,hck,hst]
  obtain ⟨bm,D,fs,rfl,q2,q3,T,G,I⟩:=h
  have L0:=(jAb.start q2 q3).box (.cells #[.int .i64 0,.int .i64 0] 92)
  have L7:=(L0.setAt 0 (.int .i64 0)).setAt 1 (.int .i64 0)
  obtain ⟨c,hc⟩ : ∃ c,jA1 size = c:=⟨_,rfl⟩
  have HC:=jAa hc
  have HE:=jAa her
  have HTold:=jAa T
  have HG:=jAa G
  clear hc her hgood hte hck hst q2 q3 T G
  go_enter Tryz.func195,Tryz.ntmps195
  go_wp2_with (go_at_call 162;refine (jGk size _).mono ?_;rintro e w1 ⟨he,rfl⟩;rw [HC.out,HE.out] at he;subst he)
  exact jW2 (r:=w.heap.size) (x:=.int .i64 0) (y:=.int .i64 0) L0.q.1 rfl rfl ⟨rfl,_,Sl0.of L0.right HTold.out HG.out I,L0.gr,L0.right.grew⟩
end
section
open Go.RowKit Go.Maps
theorem kKv {w : World} {b : Nat} {own : Nat → Prop} {st : Sb} (h : Sl0 w b own st) (hs : Small st 10000) (c : Ck) (hc : jJl c) :
  Calls Tryz.prog 141 #[.pointer (some ⟨b,0,none⟩),ckV c] w fun e w' => e = .returned (.int .i64 (jJc st c)) ∧ ∃ own',Sl0 w' b own' (jBj st c) ∧ Gr own w w' ∧ jBm w own own':=by
 have hgood : jDo st:=by obtain ⟨_,_,_,_,_,_,_,hg,_⟩:=h;exact hg
 by_cases hin : c ∈ st.inn
 ·obtain ⟨h1,h2,_⟩:=hgood.cls c (List.mem_append_left _ hin)
  obtain ⟨c1,c2⟩:=c
  obtain ⟨k,rfl⟩:=Int.eq_ofNat_of_zero_le h1
  unfold jJc
  rw [if_pos hin]
  exact jZt h hs k c2 hc (by simp at h2;omega) hin
 ·have e1 : jJc st c = 1:=by unfold jJc;rw [if_neg hin]
  have e2 : jBj st c = st:=by unfold jBj;rw [if_neg hin]
  rw [e1,e2]
  obtain ⟨bm,D,fs,rfl,h2,h3,h4,h5,h6⟩:=h
  have L0:=(jAb.start h2 h3).box (.cells #[.int .i64 c.1,.int .i64 c.2] 92)
  obtain ⟨d0,d1⟩:=jCr L0.q.1
  have HI:=jAa (decide_eq_false hin)
  unfold ckV
  go_enter Tryz.func141,Tryz.ntmps141
  go_wp2_with (go_at_call 170;refine (jTz (Sl0.of L0.right h4 h5 h6) c hc).mono ?_;rintro e w1 ⟨he,hg1⟩;rw [HI.out] at he;subst he;have L1:=L0.step hg1)
  go_ret
  exact ⟨rfl,_,Sl0.of L1.right h4 h5 h6,L1.gr,L1.right.grew⟩
theorem Sl0.kept {w w' : World} {b : Nat} {own : Nat → Prop} {st : Sb} (h : Sl0 w b own st) (hs : ∀ k,own k → w'.heap[k]? = w.heap[k]?) : Sl0 w' b own st:=by
 obtain ⟨bm,D,fs,rfl,h2,h3,h4,h5,h6⟩:=h
 refine ⟨bm,D,fs,rfl,(jFm b bm D fs st).on w w' h2 hs,fun k hk => ?_,h4,h5,h6⟩
 have e:=hs k hk
 have hlt:=h3 k hk
 rw [Array.getElem?_eq_getElem hlt] at e
 exact (Array.getElem?_eq_some_iff.1 e).1
theorem kMo : kA3 Sl0 where
 lt:=fun h k hk => by obtain ⟨_,_,_,_,_,h3,_⟩:=h;exact h3 k hk
 good:=fun h => by obtain ⟨_,_,_,_,_,_,_,hg,hb⟩:=h;exact ⟨hg,hb⟩
 keep:=fun h hs => h.kept hs
 new:=fun bud hb w => (kLu bud hb w).mono fun e w' ⟨b,own,h⟩ => ⟨b,own,h⟩
 cls:=fun size _ w => (jGk size w).mono fun e w' h => ⟨h.1,by rw [h.2];exact jDg _ _⟩
 bytes:=fun k _ w => (jI1 k w).mono fun e w' h => ⟨h.1,by rw [h.2];exact jDg _ _⟩
 take:=fun h hs size _ => kJn h hs size
 free:=fun h hs c hc => kKv h hs c hc
 has:=fun h _ c hc => (jTz h c hc).mono fun e w' hh => ⟨hh.1,h.kept fun k hk => hh.2.block k (by obtain ⟨_,_,_,_,_,h3,_⟩:=h;exact h3 k hk) (by simp),hh.2⟩
 used:=fun h _ => (kLn h).mono fun e w' hh => ⟨hh.1,by rw [hh.2];exact h,by rw [hh.2];exact jDg _ _⟩
 fits:=fun h hs size less _ hl => (jRa h hs size less hl).mono fun e w' hh => ⟨hh.1,h.kept fun k hk => hh.2.block k (by obtain ⟨_,_,_,_,_,h3,_⟩:=h;exact h3 k hk) (by simp),hh.2⟩
end
end Go.Proofs.YtkfeafmpaodagaaGreatDoor
