/- Look, Use, Used, Len, Drops and Update of package shard. Conditions: the contracts of the packages beneath it; at most 900 stores, keys of at most 300 bytes, values of at most 3000. Update and New of package shard. Conditions: the contracts of the packages beneath it; at most 900 stores, keys of at most 300 bytes, values of at most 3000. New of package shard, and the word that says what a shard in memory has. Conditions: the contracts of the packages beneath it. The iterator that All of package shard answers: copies of items that lie in a row. Conditions: at most 900 items. All of package shard: its items in a row of their own, told one by one. Conditions: the contracts of the packages beneath it; at most 900 stores. -/
import Derived.Test.YtkfeafmpaodagaaGreatDoorG23Joined
import Derived.Test.YtkfeafmpaodagaaGreatDoorG35Joined
import Derived.Test.YtkfeafmpaodagaaGreatDoorG01Joined
import Derived.Maps.OwnIn
import Derived.Laws.MakeOwn
namespace Go.Proofs.YtkfeafmpaodagaaGreatDoor
set_option maxHeartbeats 16000000
set_option maxRecDepth 100000
section
open Go.RowKit Go.Shelf
variable {Sl : World → Nat → (Nat → Prop) → Sb → Prop} {Ls : World → Nat → (Nat → Prop) → Sr → Prop} {Jd : World → Nat → List Nat → Nat → Js → Prop} {Tb : World → Nat → (Nat → Prop) → Ts → Prop}
theorem jAb.outIn {F : Nat → Prop} {w0 w : World} {l : List jAd} {A A' R : jAd} (H : jAb F w0 w ((jCi l).and R)) (i : Nat) (hi : l[i]? = some A) (hq : A'.q w) (ho : ∀ k,¬ A'.own k) : jAb F w0 w ((jCi (l.set i A')).and (A.and R)):=by
 have hil : i < l.length:=(List.getElem?_eq_some_iff.1 hi).1
 have at_ : ∀ j C,(l.set i A')[j]? = some C → (j = i ∧ C = A') ∨ (j ≠ i ∧ l[j]? = some C):=fun j C hj => by
  by_cases e : j = i
  ·subst e
   rw [List.getElem?_set_self hil] at hj
   cases hj
   exact .inl ⟨rfl,rfl⟩
  ·rw [List.getElem?_set_ne (fun e' => e e'.symm)] at hj
   exact .inr ⟨e,hj⟩
 obtain ⟨⟨h1,h2⟩,hR,hx⟩:=H.q
 refine H.weak (B:=(jCi (l.set i A')).and (A.and R)) (fun _ => ⟨⟨fun j C hj => ?_,fun j m C D hjm hj hm k hC hD => ?_⟩,⟨h1 i A hi,hR,fun k ha hr => hx k ⟨i,A,hi,ha⟩ hr⟩,?_⟩) ?_
 ·rcases at_ j C hj with ⟨_,e⟩ | ⟨_,hj⟩
  ·rw [e]
   exact hq
  ·exact h1 j C hj
 ·rcases at_ j C hj with ⟨_,e⟩ | ⟨_,hj⟩
  ·rw [e] at hC
   exact ho k hC
  ·rcases at_ m D hm with ⟨_,e⟩ | ⟨_,hm⟩
   ·rw [e] at hD
    exact ho k hD
   ·exact h2 j m C D hjm hj hm k hC hD
 ·rintro k ⟨j,C,hj,hk⟩ hr
  rcases at_ j C hj with ⟨_,e⟩ | ⟨hne,hj⟩
  ·rw [e] at hk
   exact ho k hk
  ·rcases hr with hr | hr
   ·exact h2 j i C A hne hj hi k hk hr
   ·exact hx k ⟨j,C,hj,hk⟩ hr
 ·rintro k (⟨j,C,hj,hk⟩ | hk | hk)
  ·rcases at_ j C hj with ⟨_,e⟩ | ⟨_,hj⟩
   ·rw [e] at hk
    exact (ho k hk).elim
   ·exact .inl ⟨j,C,hj,hk⟩
  ·exact .inl ⟨i,A,hi,hk⟩
  ·exact .inr hk
theorem jMa {fn : Func} {W : World} {r : Nat} {i : It} {q : Value} {tmps : Array Value} {p t : Tmp} {Post : Ending → World → Prop} (hf : fn.results = #[.cell p 75,.tmp t]) (hb : W.heap[r]? = some (.cells (itC i) 75 (0,0))) (h4 : tmps.getD p undef = .pointer (some ⟨r,0,none⟩)) (h5 : tmps.getD t undef = q)
  (h : Post (.returned (.tuple #[.agg (itC i),q])) W) : bodyPost Tryz.prog fn Post .ret { tmps:=tmps,defers:=[] } W:=by
 have hl:=run_loadVar_row (P:=Tryz.prog) W r _ 75 _ _ _ hb Tryz.underlying75 rfl (jCd i)
 have hr : (results fn tmps).run Tryz.prog W = .ok (.tuple #[.agg (itC i),q]) W:=by
  rw [results_cell_tmp hf,h4,h5]
  simp only [asAddr,Sem.run_pure,Result.andThen_ok,hl]
 exact bodyPost_ret hr rfl h
section
variable {L : jEk Sl Ls Jd Tb} {F : Nat → Prop} {w0 w : World} {b sd n : Nat} {st : Hs} {x : Sx} {R : jAd}
def LookX (L : jEk Sl Ls Jd Tb) (F : Nat → Prop) (w0 : World) (b sd n : Nat) (R : jAd) (st : Hs) (s : ByteArray) (en : En) (E : List Eb) (e : Ending) (w' : World) : Prop :=
 (jE6 s en E = none ∧ e = .returned (.tuple #[.agg (itC jBw),.bool false]) ∧ jH9 L F w0 w' b sd n R (jAy st s en) (jEm s en E)) ∨
 ∃ y a c x',jE6 s en E = some y ∧ e = .returned (.tuple #[.agg (itC (jAe y.iv a c)),.bool true]) ∧ jAb F w0 w' ((shP L b sd (jAy st s en) x').and ((jA5 w0.heap.size a c y.iv.val).and R)) ∧ Fit n (jAy st s en) x'
theorem kIu {n0 n1 : Nat} {a : Option Addr} {c : Nat} {l : List UInt8} {A : jAd} (H : jAb F w0 w ((jA5 n0 a c l).and A)) (hn : n1 ≤ n0) : jAb F w0 w ((jA5 n1 a c l).and A):=H.weak1 (fun h => jDi.base h hn) fun _ hk => hk
theorem kNz (H : jAb F w0 w ((shP L b sd st x).and R)) (f : Fit n st x) (hn : n ≤ 4398046511104) (s : ByteArray) (hs : s.size ≤ 140737488351232) (en : En) (hen : en.ok) :
  Calls Tryz.prog 29 #[.pointer (some ⟨b,0,none⟩),.string s,.agg (enC en)] w (LookX L F w0 b sd n R st s en x.E):=by
 have H0:=((H.box (.cells (enC en) 35)).box (.cells (itC jBw) 75)).rin.rot.rin
 rw [World.size_alloc] at H0
 clear H
 cases hl : jE6 s en x.E with
 | none =>
  have HL:=jAa hl
  clear hl
  go_enter Tryz.func29,Tryz.ntmps29
  go_wp2_with (first
   | (refine ldE w.heap.size en rfl _ rfl rfl H0.rot.q.1 ?_)
   | (go_at_call 53;refine (jFq H0 f hn s hs en hen).mono ?_;rw [HL.out];rintro e w3 ⟨he,x3,H3,f3,hE3⟩;have he2 : e = .returned (.pointer none):=he;subst he2;clear he;replace H3:=H3.rin.rot)
   | (refine stI (w.heap.size + 1) jBw rfl _ _ rfl rfl rfl H3.q.1 ?_;have H4:=H3.setRow (itC jBw)))
  refine jMa rfl H4.q.1 rfl rfl (.inl ⟨HL.out,rfl,x3,?_,f3,hE3⟩)
  exact H4.right.unbox
 | some y =>
  have HL:=jAa hl
  have hm : jEm s en x.E = x.E ∧ y ∈ x.E:=by
   unfold jE6 at hl
   unfold jEm
   cases hf : jBq s x.E with
   | none =>
    rw [hf] at hl
    cases hl
   | some z =>
    rw [hf] at hl
    dsimp only at hl ⊢
    by_cases hv : jCn z.iv en = true
    ·rw [if_pos hv] at hl
     rw [if_pos hv]
     cases hl
     exact ⟨rfl,(jFl hf).1⟩
    ·rw [if_neg hv] at hl
     cases hl
  have hl3:=f.valOk hm.2
  have HM:=jAa hm
  clear hl hm
  go_enter Tryz.func29,Tryz.ntmps29
  go_wp2_with (first
   | (refine ldE w.heap.size en rfl _ rfl rfl H0.rot.q.1 ?_)
   | (go_at_call 53;refine (jFq H0 f hn s hs en hen).mono ?_;rw [HL.out];rintro e w3 ⟨he,x3,H3,f3,hE3⟩;have he2 : e = .returned (.pointer (some ⟨y.blk,0,none⟩)):=he;subst he2;clear he;have hy3 : y ∈ x3.E:=(by rw [hE3,HM.out.1];exact HM.out.2);have r3:=(jGj (H3.entAt hy3)).1;have b3:=(H3.valAt hy3).bs)
   | (refine wpList_load_mid rfl 75 _ rfl y.blk 0 rfl (itC y.it).toList _ r3 Tryz.underlying75 rfl (by rw [jCd y.it,Array.length_toList]) ?_)
   | (go_at_call 54;refine (jNh y.iv (Nat.le_trans hl3 (by decide)) b3).mono ?_;rintro e w4 ⟨a4,c4,rfl,hv,hg⟩;have H4:=((hv.new H3 hg).rot.rin.unbox.rin).rot;have hsz:=H3.gr.size;clear hv hg)
   | (refine stI (w.heap.size + 1) (jAe y.iv a4 c4) rfl _ _ rfl rfl rfl H4.q.1 ?_;have H5:=H4.setRow (itC (jAe y.iv a4 c4))))
  refine jMa rfl H5.q.1 rfl rfl (.inr ⟨y,a4,c4,x3,HL.out,rfl,?_,f3⟩)
  exact (kIu H5.right.rot hsz).rot
theorem use_in (H : jAb F w0 w ((shP L b sd st x).and R)) (f : Fit n st x) (hn : n ≤ 4398046511104) (s : ByteArray) (hs : s.size ≤ 140737488351232) :
  Calls Tryz.prog 30 #[.pointer (some ⟨b,0,none⟩),.string s] w fun e w' => (∃ v,e = .returned v) ∧ jH9 L F w0 w' b sd n R (jGt sd st s) x.E:=by
 have hsm : s.size ≤ maxLen:=Nat.le_trans hs (by decide)
 have hlR:=Nat.le_of_lt (f.lenR hn)
 obtain ⟨-,-,-,c3,-⟩:=H.headC
 go_enter Tryz.func30,Tryz.ntmps30
 go_wp2_with (first
  | (go_at_call 55;refine (L.jd.touch H.judge s hs).mono ?_;rintro e w1 ⟨⟨v,rfl⟩,hJ,hg⟩;have H1:=H.toJudge hJ hg;clear hJ hg;obtain ⟨-,-,c2,-,-⟩:=H1.headC)
  | (go_at_call 56;refine (L.ls.hit H1.list hlR s hsm).mono ?_;rintro e w2 ⟨rfl,own2,hL,hg,hgr⟩;have H2:=H1.toList hL hg hgr;clear hL hg hgr))
 go_end0
 exact ⟨⟨_,rfl⟩,_,H2,⟨f.small,f.tab,f.ents,f.blks,jD3 f.good sd s⟩,rfl⟩
theorem kNd (H : jAb F w0 w ((shP L b sd st x).and R)) (f : Fit n st x) (hn : n ≤ 4398046511104) :
  Calls Tryz.prog 47 #[.pointer (some ⟨b,0,none⟩)] w fun e w' => e = .returned (.int .i64 (jBn st.slab)) ∧ w.grownBy w' none:=by
 have hsS:=f.smallS hn
 obtain ⟨-,c1,-⟩:=H.headC
 go_enter Tryz.func47,Tryz.ntmps47
 go_wp2_with (go_at_call 84;refine (L.sl.used H.slab hsS).mono ?_;rintro e w1 ⟨rfl,hS,hg⟩)
 go_ret
 exact ⟨rfl,hg⟩
theorem kEp (H : jAb F w0 w ((shP L b sd st x).and R)) (f : Fit n st x) (hn : n ≤ 4398046511104) :
  Calls Tryz.prog 81 #[.pointer (some ⟨b,0,none⟩)] w fun e w' => e = .returned (.int .i64 st.ents.length) ∧ w.grownBy w' none:=by
 have h5:=f.small5 hn
 have hl : (x.ts.l.length : Int) = (st.ents.length : Int):=by rw [f.tab,f.ents,List.length_map,List.length_map]
 have HL:=jAa hl
 obtain ⟨c0,-⟩:=H.headC
 clear hl
 go_enter Tryz.func81,Tryz.ntmps81
 go_wp2_with (go_at_call 114;refine (L.tb.len H.tabl h5).mono ?_;rintro e w1 ⟨he,hT,hg⟩;rw [HL.out] at he;subst he)
 go_ret
 exact ⟨rfl,hg⟩
theorem kJq (H : jAb F w0 w ((shP L b sd st x).and R)) (f : Fit n st x) :
  Calls Tryz.prog 18 #[.pointer (some ⟨b,0,none⟩)] w fun e w' => e = .returned x.vd ∧ jAb F w0 w' ((shP L b sd (jGb st) { x with vd:=.slice none 0 0 }).and ((jIm x.vd st.drops).and R)) ∧ Fit n (jGb st) { x with vd:=.slice none 0 0 }:=by
 have hf' : Fit n (jGb st) { x with vd:=.slice none 0 0 }:=⟨f.small,f.tab,f.ents,f.blks,jZ9 f.good⟩
 obtain ⟨-,-,-,-,c4⟩:=H.headC
 have f4:=frozen_of_row w b 4 _ _ H.head
 obtain ⟨a,cap,hvd⟩:=jAr H.dropsR
 have HV:=jAa hvd
 rw [hvd] at c4
 clear hvd
 have H1 : jAb F w0 (w.setCell ⟨b,4,none⟩ (.slice none 0 0)) ((shP L b sd (jGb st) { x with vd:=.slice none 0 0 }).and ((jIm x.vd st.drops).and R)):=by
  have hq:=H.headSet (.slice none 0 0)
  have Ha:=H.turnIn (A:=jJi b x) (A':=jJi b { x with vd:=.slice none 0 0 }) 0 rfl hq.2 (fun k hk => by rw [World.size_setCell];exact H.atLt (A:=jJi b x) 0 rfl k hk) hq.1 fun _ hk => .inl hk
  exact Ha.outIn (A:=jIm x.vd st.drops) (A':=jIm (.slice none 0 0) []) 5 rfl (World.ownsRow_nil _ _ _ _) fun k hk => by cases hk
 go_enter Tryz.func18,Tryz.ntmps18
 go_wp2
 go_ret
 exact ⟨by rw [HV.out];rfl,H1,hf'⟩
end
end
section
open Go.RowKit Go.Shelf
variable {Sl : World → Nat → (Nat → Prop) → Sb → Prop} {Ls : World → Nat → (Nat → Prop) → Sr → Prop} {Jd : World → Nat → List Nat → Nat → Js → Prop} {Tb : World → Nat → (Nat → Prop) → Ts → Prop}
def jJp (y : Eb) (E : List Eb) : List Eb:=E.map fun z => if z.blk = y.blk then y else z
theorem jGf {y y0 z : Eb} {E : List Eb} (h0 : y0 ∈ E) (hb : y0.blk = y.blk) : z ∈ jJp y E ↔ z = y ∨ (z ∈ E ∧ z.blk ≠ y.blk):=by
 unfold jJp
 rw [List.mem_map]
 constructor
 ·rintro ⟨u,hu,rfl⟩
  by_cases e : u.blk = y.blk
  ·rw [if_pos e]
   exact .inl rfl
  ·rw [if_neg e]
   exact .inr ⟨hu,e⟩
 ·rintro (rfl | ⟨hz,hne⟩)
  ·exact ⟨y0,h0,if_pos hb⟩
  ·exact ⟨z,hz,if_neg hne⟩
theorem kHj (y : Eb) (E : List Eb) : (jJp y E).map Eb.blk = E.map Eb.blk:=by
 unfold jJp
 rw [List.map_map]
 refine List.map_congr_left fun z _ => ?_
 show (if z.blk = y.blk then y else z).blk = z.blk
 split
 ·rename_i e
  exact e.symm
 ·rfl
theorem jW8 {y y0 : Eb} {E : List Eb} (hn : (E.map Eb.blk).Nodup) (h0 : y0 ∈ E) (hb : y0.blk = y.blk) (hk : y0.iv.key = y.iv.key) : (jJp y E).map Eb.kv = E.map Eb.kv:=by
 unfold jJp
 rw [List.map_map]
 refine List.map_congr_left fun z hz => ?_
 show (if z.blk = y.blk then y else z).kv = z.kv
 split
 ·rename_i e
  have : z = y0:=jTp hn hz h0 (e.trans hb.symm)
  rw [this]
  unfold Eb.kv
  rw [hk,hb]
 ·rfl
theorem kGo {y y0 : Eb} {E : List Eb} (hr : jA9 (E.map Eb.ent)) (hn : (E.map Eb.blk).Nodup) (h0 : y0 ∈ E) (hb : y0.blk = y.blk) (hk : y0.iv.key = y.iv.key) : (jJp y E).map Eb.ent = jCp y.ent (E.map Eb.ent):=by
 have hkv:=jW8 hn h0 hb hk
 have hr' : jA9 ((jJp y E).map Eb.ent):=by
  have h1:=jJy hr
  rw [← hkv] at h1
  unfold jCl at h1
  unfold jA9
  rw [List.pairwise_map] at h1 ⊢
  exact h1
 refine jM5 hr' (jF2 hr) fun e => ?_
 rw [List.mem_map,jKb]
 have same : ∀ z ∈ E,z.blk = y.blk ↔ z.iv.key = y.iv.key:=fun z hz => by
  constructor
  ·intro e
   rw [jTp hn hz h0 (e.trans hb.symm),hk]
  ·intro e
   have : z.ent = y0.ent:=jLm hr (List.mem_map.2 ⟨z,hz,rfl⟩) (List.mem_map.2 ⟨y0,h0,rfl⟩) (e.trans hk.symm)
   by_cases hzb : z = y0
   ·rw [hzb,hb]
   ·have hp : ∀ {l : List Eb},jA9 (l.map Eb.ent) → ∀ u ∈ l,∀ v ∈ l,u.iv.key = v.iv.key → u = v:=by
     intro l hl
     induction l with
     | nil => intro u hu;cases hu
     | cons c l ih =>
      rw [List.map_cons] at hl
      have hl':=List.pairwise_cons.1 hl
      intro u hu v hv huv
      rcases List.mem_cons.1 hu with eu | hu
      ·rcases List.mem_cons.1 hv with ev | hv
       ·rw [eu,ev]
       ·exact absurd (eu ▸ huv) (jEz (hl'.1 v.ent (List.mem_map.2 ⟨v,hv,rfl⟩)))
      ·rcases List.mem_cons.1 hv with ev | hv
       ·exact absurd (ev ▸ huv.symm) (jEz (hl'.1 u.ent (List.mem_map.2 ⟨u,hu,rfl⟩)))
       ·exact ih hl'.2 u hu v hv huv
    exact absurd (hp hr z hz y0 h0 (e.trans hk.symm)) hzb
 constructor
 ·rintro ⟨z,hz,rfl⟩
  rcases (jGf h0 hb).1 hz with rfl | ⟨hz,hne⟩
  ·exact .inl rfl
  ·exact .inr ⟨List.mem_map.2 ⟨z,hz,rfl⟩,fun e => hne ((same z hz).2 e)⟩
 ·rintro (rfl | ⟨he,hne⟩)
  ·exact ⟨y,(jGf h0 hb).2 (.inl rfl),rfl⟩
  ·obtain ⟨z,hz,rfl⟩:=List.mem_map.1 he
   exact ⟨z,(jGf h0 hb).2 (.inr ⟨hz,fun e => hne ((same z hz).1 e)⟩),rfl⟩
section
variable {L : jEk Sl Ls Jd Tb} {F : Nat → Prop} {w0 w : World} {b sd n : Nat} {st : Hs} {x : Sx} {R : jAd}
theorem kHo {W : World} {y : Eb} (h : W.heap[y.blk]? = some (.cells y.cells 130 (0,0))) : W.there y.blk 0 10:=fun j hj => by
 refine ⟨?_,?_⟩
 ·unfold World.cell?
  rw [h]
  show (y.cells[0 + j]?).isSome = true
  rw [Nat.zero_add]
  have : j < y.cells.size:=Nat.lt_of_lt_of_le hj (show 10 ≤ y.cells.size by unfold Eb.cells;rw [Array.size_append];exact Nat.le_add_right _ _)
  rw [Array.getElem?_eq_getElem this]
  rfl
 ·exact frozen_of_row _ _ _ _ _ h
theorem kJu (y : Eb) (i : Iv) (a' : Option Addr) (c' : Nat) : setL y.cells 0 (itC (jAe i a' c')).toList = (⟨y.blk,i,y.ck,a',c'⟩ : Eb).cells:=by
 have h1 : y.cells = [.string y.iv.key,.slice y.a y.iv.val.length y.c,.int .u32 y.iv.fl,.int .i64 y.iv.exp,.int .u64 y.iv.cas,.int .i64 y.iv.sec,.int .u64 y.iv.seq,.bool y.iv.st,.bool y.iv.won,.bool y.iv.seen,.int .i64 y.ck.1,.int .i64 y.ck.2].toArray:=rfl
 have h2 : (itC (jAe i a' c')).toList = [.string i.key,.slice a' i.val.length c',.int .u32 i.fl,.int .i64 i.exp,.int .u64 i.cas,.int .i64 i.sec,.int .u64 i.seq,.bool i.st,.bool i.won,.bool i.seen]:=rfl
 rw [h1,h2]
 simp [setL,Eb.cells,Eb.it,itC,jAe]
theorem jAb.updE {i : Iv} {a' : Option Addr} {c' n0 : Nat} {y : Eb} (H : jAb F w0 w ((shP L b sd st x).and ((jA5 n0 a' c' i.val).and R))) (hy : y ∈ x.E) (es : List Ent) :
  jAb F w0 (w.setCells y.blk 0 (itC (jAe i a' c')).toList) ((shP L b sd { st with ents:=es } { x with E:=jJp ⟨y.blk,i,y.ck,a',c'⟩ x.E }).and R):=by
 have hg:=jPb (k:=y.blk) (itC (jAe i a' c')).toList 0 w
 have hn:=jOt (itC (jAe i a' c')).toList 0 w y.cells (H.entAt hy)
 rw [kJu] at hn
 have H1:=H.turnIn (A:=jGv x.E) (A':=jGv (jJp ⟨y.blk,i,y.ck,a',c'⟩ x.E)) 6 rfl (fun z hz => by
  rcases (jGf (y:=⟨y.blk,i,y.ck,a',c'⟩) hy rfl).1 hz with rfl | ⟨hz,hne⟩
  ·exact hn
  ·exact (hg.block z.blk (H.atLt (A:=jGv x.E) 6 rfl _ ⟨z,hz,rfl⟩) hne).trans (H.entAt hz)) (fun k ⟨z,hz,e⟩ => by
  rcases (jGf (y:=⟨y.blk,i,y.ck,a',c'⟩) hy rfl).1 hz with rfl | ⟨hz,hne⟩
  ·exact Nat.lt_of_lt_of_le (H.atLt (A:=jGv x.E) 6 rfl _ ⟨y,hy,e⟩) hg.size
  ·exact Nat.lt_of_lt_of_le (H.atLt (A:=jGv x.E) 6 rfl _ ⟨z,hz,e⟩) hg.size) (kEu hg fun k hk => ⟨y,hy,hk.symm⟩) fun k ⟨z,hz,e⟩ => (by
  rcases (jGf (y:=⟨y.blk,i,y.ck,a',c'⟩) hy rfl).1 hz with rfl | ⟨hz,hne⟩
  ·exact .inl ⟨y,hy,e⟩
  ·exact .inl ⟨z,hz,e⟩)
 exact H1.mergeIn (A:=jEw x.E) (A':=jEw (jJp ⟨y.blk,i,y.ck,a',c'⟩ x.E)) 7 rfl (fun h1 h2 z hz => by
  rcases (jGf (y:=⟨y.blk,i,y.ck,a',c'⟩) hy rfl).1 hz with rfl | ⟨hz,_⟩
  ·exact jDi.base h2 (Nat.zero_le _)
  ·exact h1 z hz) fun k ⟨z,hz,e⟩ => (by
  rcases (jGf (y:=⟨y.blk,i,y.ck,a',c'⟩) hy rfl).1 hz with rfl | ⟨hz,_⟩
  ·exact .inr e
  ·exact .inl ⟨z,hz,e⟩)
theorem jAb.keyC {k : Nat} {i : Iv} {a : Option Addr} {c : Nat} {t : TypeId} {A : jAd} (H : jAb F w0 w (A.and ((jAn k (.cells (itC (jAe i a c)) t)).and R))) : w.cell? ⟨k,0,none⟩ = some (.string i.key) ∧ w.cell? ⟨k,1,none⟩ = some (.slice a i.val.length c):=by
 have h : w.heap[k]? = some (.cells (itC (jAe i a c)) t (0,0)):=H.rot.q.1
 exact ⟨(jAk h).1,(jAk h).2.1⟩
theorem kMb (f : Fit n st x) (i : Iv) : jJs st i = (match jBq i.key x.E with | none => 6 | some y => if i.val.length = y.iv.val.length then 0 else 1) ∧ jBa st i = (match jBq i.key x.E with | none => st | some y => if i.val.length = y.iv.val.length then { st with ents:=jCp (i,y.ck) st.ents } else st):=by
 unfold jJs jBa
 rw [f.find]
 cases jBq i.key x.E with
 | none => exact ⟨rfl,rfl⟩
 | some y => exact ⟨rfl,rfl⟩
theorem kId (H : jAb F w0 w ((shP L b sd st x).and R)) (f : Fit n st x) (hn : n ≤ 4398046511104) (i : Iv) (hi : i.ok) (a : Option Addr) (c : Nat) (hrd : jG7 w0 F a c i.val) :
  Calls Tryz.prog 98 #[.pointer (some ⟨b,0,none⟩),.agg (itC (jAe i a c))] w fun e w' => e = .returned (.int .i64 (jJs st i)) ∧ ∃ E,jH9 L F w0 w' b sd n R (jBa st i) E:=by
 have mixed : Tryz.prog.follows .mixedOrders = true:=by kernel_rfl
 have hk3:=hi.key
 have hv3:=hi.val
 have h5:=f.small5 hn
 obtain ⟨g1,g2,-⟩:=f.got i.key
 obtain ⟨u1,u2⟩:=kMb f i
 have hgd:=jPn f.good hi
 have H0:=(H.box (.cells (itC (jAe i a c)) 75)).rot.drew
 obtain ⟨c0,-⟩:=H0.headC
 have c1:=H0.keyC.1
 clear H
 cases hf : jBq i.key x.E with
 | none =>
  rw [hf] at g1 g2 u1 u2
  have K:=jAa (show jJm (jEh i.key x.ts.l) = .pointer none ∧ jE3 x.ts i.key = false from ⟨g1,g2⟩)
  rw [u1,u2]
  clear g1 g2 u1 u2 hgd
  go_enter Tryz.func98,Tryz.ntmps98
  go_upto_region 1 with fail
  go_region_held (fun w' => w'.cell? ⟨b,0,none⟩ = some (.pointer (some ⟨x.tb,0,none⟩)) ∧ w'.cell? ⟨w.heap.size,0,none⟩ = some (.string i.key)) (first | exact ⟨d0,d1⟩ | exact ⟨c0,c1⟩) ((go_at_call 86;refine (L.tb.get H0.tabl h5 i.key hk3).mono ?_;rintro e w1 ⟨he,own1,hT,hg,hgr⟩;rw [K.out.1,K.out.2] at he;subst he;have H1:=H0.toTab hT hg hgr;clear hT hg hgr;obtain ⟨d0,-⟩:=H1.headC;have d1:=H1.keyC.1))
  all_goals
   go_wp2
   go_ret
   exact ⟨rfl,x.E,_,H1.unbox,⟨jDa f.small,f.tab,f.ents,f.blks,f.good⟩,rfl⟩
 | some y =>
  rw [hf] at g1 g2 u1 u2
  dsimp only at u1 u2
  have K:=jAa (show jJm (jEh i.key x.ts.l) = .pointer (some ⟨y.blk,0,none⟩) ∧ jE3 x.ts i.key = true from ⟨g1,g2⟩)
  have hy:=(jFl hf).1
  have hkey:=(jFl hf).2
  have hyv:=f.valOk hy
  obtain ⟨p,hp⟩ : ∃ p,i.val.length = p:=⟨_,rfl⟩
  obtain ⟨q,hq⟩ : ∃ q,y.iv.val.length = q:=⟨_,rfl⟩
  by_cases hl : i.val.length = y.iv.val.length
  ·rw [if_pos hl] at u1 u2
   have hv9 : i.val.length ≤ 100000:=by omega
   have hpq : ((p : Int) != (q : Int)) = false:=by rw [← hp,← hq,hl];simp
   have hgd2:=jAa (show jAo n { st with ents:=jCp (i,y.ck) st.ents } from by rw [← u2];exact hgd)
   rw [u1,u2]
   have HK:=jAa hkey
   have HP:=jAa hp
   have HQ:=jAa hq
   clear g1 g2 u1 u2 hgd hl hkey
   go_enter Tryz.func98,Tryz.ntmps98
   go_upto_region 1 with fail
   go_region_held (fun w' => w'.cell? ⟨b,0,none⟩ = some (.pointer (some ⟨x.tb,0,none⟩)) ∧ w'.cell? ⟨w.heap.size,0,none⟩ = some (.string i.key)) (first | exact ⟨d0,d1⟩ | exact ⟨c0,c1⟩) ((go_at_call 86;refine (L.tb.get H0.tabl h5 i.key hk3).mono ?_;rintro e w1 ⟨he,own1,hT,hg,hgr⟩;rw [K.out.1,K.out.2] at he;subst he;have H1:=H0.toTab hT hg hgr;clear hT hg hgr;obtain ⟨d0,-⟩:=H1.headC;have d1:=H1.keyC.1))
   all_goals
    go_upto_region 4 with fail
    have e1:=H1.keyC.2
    have e2:=(jGj (H1.entAt hy)).2.2.2
    rw [HP.out] at e1
    rw [HQ.out] at e2
    go_quiet (fail)
    have H2:=H1.drewN nq
    clear H1 e1 e2
    go_wp2_with (first
     | (refine ldI w.heap.size (jAe i a c) rfl _ rfl rfl H2.rot.q.1 ?_)
     | (go_at_call 54;refine (jNh i hv9 (hrd.on H2.gr)).mono ?_;rintro e w4 ⟨a4,c4,rfl,hv,hg⟩;have H4:=(hv.new H2 hg).rot;have ht:=kHo (H4.entAt hy);have H5:=H4.updE hy (jCp (i,y.ck) st.ents);clear hv hg)
     | (refine wpList_store_mid rfl 75 _ _ rfl y.blk 0 (itC (jAe i a4 c4)) rfl rfl ht (jCd _) (jHu _) ?_))
    go_ret
    exact ⟨rfl,_,_,H5.unbox,⟨jDa f.small,by show x.ts.l = _;rw [f.tab];exact (jW8 (y:=⟨y.blk,i,y.ck,a4,c4⟩) f.blks hy rfl HK.out).symm,by show jCp (i,y.ck) st.ents = _;rw [f.ents];exact (kGo (y:=⟨y.blk,i,y.ck,a4,c4⟩) (by rw [← f.ents];exact f.good.rise) f.blks hy rfl HK.out).symm,by rw [kHj];exact f.blks,hgd2.out⟩,rfl⟩
  ·rw [if_neg hl] at u1 u2
   have hpq : ((p : Int) != (q : Int)) = true:=by
    have : (p : Int) ≠ (q : Int):=fun e => hl (by omega)
    simpa using this
   rw [u1,u2]
   have HP:=jAa hp
   have HQ:=jAa hq
   clear g1 g2 u1 u2 hgd hl hkey
   go_enter Tryz.func98,Tryz.ntmps98
   go_upto_region 1 with fail
   go_region_held (fun w' => w'.cell? ⟨b,0,none⟩ = some (.pointer (some ⟨x.tb,0,none⟩)) ∧ w'.cell? ⟨w.heap.size,0,none⟩ = some (.string i.key)) (first | exact ⟨d0,d1⟩ | exact ⟨c0,c1⟩) ((go_at_call 86;refine (L.tb.get H0.tabl h5 i.key hk3).mono ?_;rintro e w1 ⟨he,own1,hT,hg,hgr⟩;rw [K.out.1,K.out.2] at he;subst he;have H1:=H0.toTab hT hg hgr;clear hT hg hgr;obtain ⟨d0,-⟩:=H1.headC;have d1:=H1.keyC.1))
   all_goals
    go_upto_region 4 with fail
    have e1:=H1.keyC.2
    have e2:=(jGj (H1.entAt hy)).2.2.2
    rw [HP.out] at e1
    rw [HQ.out] at e2
    go_quiet (fail)
    have H2:=H1.drewN nq
    go_wp2
    go_ret
    exact ⟨rfl,x.E,_,H2.unbox,⟨jDa f.small,f.tab,f.ents,f.blks,f.good⟩,rfl⟩
end
end
section
open Go.RowKit Go.Shelf
variable {Sl : World → Nat → (Nat → Prop) → Sb → Prop} {Ls : World → Nat → (Nat → Prop) → Sr → Prop} {Jd : World → Nat → List Nat → Nat → Js → Prop} {Tb : World → Nat → (Nat → Prop) → Ts → Prop}
theorem allP_q {l : List jAd} {w : World} : (jCi l).q w ↔ (∀ A ∈ l,A.q w) ∧ l.Pairwise (fun A B => ∀ k,A.own k → ¬ B.own k):=by
 constructor
 ·rintro ⟨h1,h2⟩
  refine ⟨fun A hA => ?_,?_⟩
  ·obtain ⟨i,hi⟩:=List.getElem?_of_mem hA
   exact h1 i A hi
  ·rw [List.pairwise_iff_getElem]
   intro i j hi hj hij
   exact h2 i j _ _ (Nat.ne_of_lt hij) (List.getElem?_eq_getElem hi) (List.getElem?_eq_getElem hj)
 ·rintro ⟨h1,h2⟩
  refine ⟨fun i A hi => h1 A (List.mem_of_getElem? hi),fun i j A B hij hi hj k hA hB => ?_⟩
  rw [List.pairwise_iff_getElem] at h2
  obtain ⟨hi1,ei⟩:=List.getElem?_eq_some_iff.1 hi
  obtain ⟨hj1,ej⟩:=List.getElem?_eq_some_iff.1 hj
  rcases Nat.lt_or_gt_of_ne hij with h | h
  ·exact h2 i j hi1 hj1 h k (by rw [ei];exact hA) (by rw [ej];exact hB)
  ·exact h2 j i hj1 hi1 h k (by rw [ej];exact hB) (by rw [ei];exact hA)
theorem jEr {l : List jAd} {k : Nat} : (jCi l).own k ↔ ∃ A ∈ l,A.own k:=by
 constructor
 ·rintro ⟨i,A,hi,hk⟩
  exact ⟨A,List.mem_of_getElem? hi,hk⟩
 ·rintro ⟨A,hA,hk⟩
  obtain ⟨i,hi⟩:=List.getElem?_of_mem hA
  exact ⟨i,A,hi,hk⟩
theorem jAb.cons0 {F : Nat → Prop} {w0 w : World} {A R : jAd} (H : jAb F w0 w R) (hq : A.q w) (ho : ∀ k,¬ A.own k) : jAb F w0 w (A.and R) :=
 ⟨H.gr,⟨hq,H.q,fun k ha => (ho k ha).elim⟩,fun k hk => hk.elim (fun h => (ho k h).elim) (H.lt k)⟩
section
variable {L : jEk Sl Ls Jd Tb} {F : Nat → Prop} {w0 w : World} {b sd n : Nat} {st : Hs} {x : Sx} {R : jAd}
def Sh0 (L : jEk Sl Ls Jd Tb) (w : World) (b : Nat) (own : Nat → Prop) (sd n : Nat) (st : Hs) : Prop:=∃ x,own = (shP L b sd st x).own ∧ (shP L b sd st x).q w ∧ (∀ k,own k → k < w.heap.size) ∧ Fit n st x
theorem Sh0.law {own : Nat → Prop} (h : Sh0 L w b own sd n st) : ∃ x,jAb own w w ((shP L b sd st x).and jAd.emp) ∧ Fit n st x:=by
 obtain ⟨x,rfl,h2,h3,h4⟩:=h
 refine ⟨x,⟨Gr.refl _ _,⟨h2,trivial,fun _ _ h => h.elim⟩,fun k hk => ?_⟩,h4⟩
 rcases hk with hk | hk
 ·exact ⟨h3 k hk,.inl hk⟩
 ·exact hk.elim
theorem Sh0.of (H : jAb F w0 w ((shP L b sd st x).and R)) (f : Fit n st x) : Sh0 L w b (shP L b sd st x).own sd n st ∧ Gr F w0 w ∧ jBm w0 F (shP L b sd st x).own :=
 ⟨⟨x,rfl,H.q.1,fun k hk => (H.lt k (.inl hk)).1,f⟩,H.gr,fun k hk => (H.lt k (.inl hk)).2⟩
theorem Sh0.keep {w' : World} {own : Nat → Prop} (h : Sh0 L w b own sd n st) (hs : jMh own w w') : Sh0 L w' b own sd n st:=by
 obtain ⟨x,rfl,h2,h3,h4⟩:=h
 refine ⟨x,rfl,(shP L b sd st x).on w w' h2 hs,fun k hk => ?_,h4⟩
 have h5:=h3 k hk
 have h6:=hs k hk
 rw [Array.getElem?_eq_getElem h5] at h6
 exact (Array.getElem?_eq_some_iff.1 h6).1
theorem kIx {bud most : Int} {W : World} {tb sb ob jb : Nat} {tw so oo : Nat → Prop} {js : List Nat} (H : jAb (fun _ => False) w W ((jO3 L jb js sd jIn).and ((jSk L ob oo (jIg most)).and ((jPv L sb so (jEt bud)).and ((jMe L tb tw jL8).and jAd.emp))))) :
  jAb (fun _ => False) w (W.alloc (.cells #[.pointer (some ⟨tb,0,none⟩),.pointer (some ⟨sb,0,none⟩),.pointer (some ⟨ob,0,none⟩),.pointer (some ⟨jb,0,none⟩),.slice none 0 0] 62)) ((shP L W.heap.size sd (jG8 bud most) ⟨tb,tw,jL8,sb,so,ob,oo,jb,js,.slice none 0 0,[]⟩).and jAd.emp):=by
 have hz : (jCi [jIm (.slice none 0 0) [],jGv [],jEw []]).q W:=by
  rw [allP_q]
  refine ⟨fun A hA => ?_,?_⟩
  ·simp only [List.mem_cons,List.not_mem_nil,or_false] at hA
   rcases hA with rfl | rfl | rfl
   ·exact World.ownsRow_nil _ _ _ _
   ·intro z hz
    cases hz
   ·intro z hz
    cases hz
  ·refine List.pairwise_cons.2 ⟨fun A _ k hk => (by cases hk),List.pairwise_cons.2 ⟨fun A _ k hk => (by obtain ⟨z,hz,_⟩:=hk;cases hz),List.pairwise_singleton _ _⟩⟩
 have ho : ∀ k,¬ (jCi [jIm (.slice none 0 0) [],jGv [],jEw []]).own k:=fun k hk => by
  obtain ⟨A,hA,h⟩:=jEr.1 hk
  simp only [List.mem_cons,List.not_mem_nil,or_false] at hA
  rcases hA with rfl | rfl | rfl
  ·cases h
  ·obtain ⟨z,hz,_⟩:=h
   cases hz
  ·obtain ⟨z,hz,_⟩:=h
   cases hz
 have H1:=(((((H.cons0 hz ho).rot.consP).rot.consP).rot.consP).rot.consP).box (.cells #[.pointer (some ⟨tb,0,none⟩),.pointer (some ⟨sb,0,none⟩),.pointer (some ⟨ob,0,none⟩),.pointer (some ⟨jb,0,none⟩),.slice none 0 0] 62)
 exact H1.consP
theorem kEi (sd : Nat) (bud most : Int) (hsd : sd < 18446744073709551616) (hb : I64 bud) (hm : I64 most) (w : World) :
  Calls Tryz.prog 7 #[.int .u64 sd,.int .i64 bud,.int .i64 most] w fun e w' => ∃ b own,e = .returned (.pointer (some ⟨b,0,none⟩)) ∧ (∀ k,own k → w.heap.size ≤ k) ∧ Sh0 L w' b own sd 0 (jG8 bud most) ∧ w.grownBy w' none:=by
 have H:=jAb.bare w
 go_enter Tryz.func7,Tryz.ntmps7
 go_wp2_with (first
  | (go_at_call 22;refine (L.tb.new sd hsd _).mono ?_;rintro e w1 ⟨tb,tw,rfl,h1,h2,h3⟩;replace H:=H.new (A:=jMe L tb tw jL8) h3 h2 fun k hk => ⟨h1 k hk,L.tb.lt h2 k hk⟩;clear h1 h2 h3)
  | (go_at_call 23;refine (L.sl.new bud hb _).mono ?_;rintro e w2 ⟨sb,so,rfl,h1,h2,h3⟩;replace H:=H.new (A:=jPv L sb so (jEt bud)) h3 h2 fun k hk => ⟨h1 k hk,L.sl.lt h2 k hk⟩;clear h1 h2 h3)
  | (go_at_call 24;refine (L.ls.new most hm _).mono ?_;rintro e w3 ⟨ob,oo,rfl,h1,h2,h3⟩;replace H:=H.new (A:=jSk L ob oo (jIg most)) h3 h2 fun k hk => ⟨h1 k hk,L.ls.lt h2 k hk⟩;clear h1 h2 h3)
  | (go_at_call 25;refine (L.jd.new sd hsd _).mono ?_;rintro e w4 ⟨jb,js,rfl,h1,h2,h3⟩;replace H:=H.new (A:=jO3 L jb js sd jIn) h3 h2 fun k hk => ⟨h1 k hk,L.jd.lt h2 k hk⟩;clear h1 h2 h3))
 go_ret
 have H1:=kIx H
 exact ⟨_,_,rfl,fun k hk => (H1.lt k (.inl hk)).2.resolve_left id,(Sh0.of H1 ⟨jQv jX3 (by decide),rfl,rfl,List.nodup_nil,kAl bud most 0 (by decide)⟩).1,H1.grownN⟩
end
end
section
open Go.RowKit Go.Shelf
attribute [local go_sem] Oper.semAt_some
def jIw (l : List It) : List Value:=l.flatMap fun i => (itC i).toList
theorem kKa (l : List It) (x : It) : jIw (l ++ [x]) = jIw l ++ (itC x).toList:=by simp [jIw]
theorem jWm {x : It} : ∀ {l : List It} {k j : Nat},l[k]? = some x → j < 10 → (jIw l)[k * 10 + j]? = (itC x).toList[j]?
 | [],k,j,h,_ => by simp at h
 | y :: l,0,j,h,hj => by
  simp at h
  subst h
  rw [Nat.zero_mul,Nat.zero_add]
  show ((itC y).toList ++ jIw l)[j]? = _
  exact List.getElem?_append_left hj
 | y :: l,k + 1,j,h,hj => by
  have h' : l[k]? = some x:=by simpa using h
  show ((itC y).toList ++ jIw l)[(k + 1) * 10 + j]? = _
  rw [List.getElem?_append_right (by show 10 ≤ _;omega)]
  have e : (k + 1) * 10 + j - (itC y).toList.length = k * 10 + j:=by
   have : (itC y).toList.length = 10:=rfl
   omega
  rw [e]
  exact jWm h' hj
theorem it_row {w : World} {n0 n cap g k : Nat} {l : List It} {x : It} (h : w.ownsRow n0 75 10 (.slice (some ⟨g,0,none⟩) n cap) n (jIw l)) (hn : l.length = n) (hk : l[k]? = some x) : ∀ (j : Nat) (v : Value),(itC x).toList[j]? = some v → w.cell? ⟨g,k * 10 + j,none⟩ = some v:=by
 intro j v hv
 have hj : j < 10:=(List.getElem?_eq_some_iff.1 hv).1
 have hkl:=(List.getElem?_eq_some_iff.1 hk).1
 rw [h.cellAt (k * 10 + j) (by omega),jWm hk hj,hv]
def KpS (own : Nat → Prop) (w V : World) : Prop:=∀ k,own k → k < V.heap.size ∧ V.heap[k]? = w.heap[k]?
theorem KpS.step {own fp : Nat → Prop} {w V V' : World} (h : KpS own w V) (hg : Gr fp V V') (hf : ∀ k,fp k → k < V.heap.size ∧ ¬ own k) : KpS own w V':=fun k hk => ⟨Nat.lt_of_lt_of_le (h k hk).1 hg.size,(hg.block k (h k hk).1 fun hfk => (hf k hfk).2 hk).trans (h k hk).2⟩
theorem KpS.grown {own : Nat → Prop} {w V V' : World} (h : KpS own w V) (hg : V.grownBy V' none) : KpS own w V':=fun k hk => ⟨Nat.lt_of_lt_of_le (h k hk).1 hg.size,(hg.block k (h k hk).1 (by simp)).trans (h k hk).2⟩
def jNg (bv : Nat) (v : Value) (E : List Eb) (k : Nat) : Prop:=k = bv ∨ v.ownBlock = some k ∨ (jEw E).own k
theorem jGg {w : World} {k : Nat} {t : TypeId} {v : Value} (h : w.heap[k]? = some (.cells #[v] t)) : w.cell? ⟨k,0,none⟩ = some v:=by
 simp [World.cell?,h]
theorem jZn {α : Type} {B : Nat} {J : List α → World → (Nat → Prop) → Prop} (hJ : jD5 B J) {own : Nat → Prop} (hfp : ∀ pre V fp,J pre V fp → ∀ k,fp k → k < V.heap.size ∧ ¬ own k) {pre : List α} {V V' : World} {fp : Nat → Prop} (h : J pre V fp) (hg : V.grownBy V' none) : J pre V' fp :=
 hJ pre V V' fp h ⟨hg.1,hg.2,hg.3,hg.4,fun k hk _ => hg.5 k hk (by simp)⟩ fun k hk => hg.5 k (hfp _ _ _ h k hk).1 (by simp)
theorem kCp (m : Nat) (hm : 1 ≤ m) {w : World} {bv n0 : Nat} {v : Value} {E : List Eb} (hE : E.length ≤ 901) (hbv : w.heap[bv]? = some (.cells #[v] 149)) (hr : w.ownsRow n0 75 10 v E.length (jIw (E.map Eb.it))) (hvs : (jEw E).q w) (hok : ∀ y ∈ E,y.iv.val.length ≤ 3000) :
  jHd Fence.wide m Tryz.prog 83 #[.pointer (some ⟨bv,0,none⟩)] jSe jIs (jNg bv v E) (fun xs => xs.map jFf.iv = E.map Eb.iv) (fun pre => pre.map jFf.iv <+: E.map Eb.iv) w:=by
 intro l J Jx fp0 W hW hJ hJx hfp hY h0
 have hbl : bv < w.heap.size:=(Array.getElem?_eq_some_iff.1 hbv).1
 have K0 : KpS (jNg bv v E) w W:=fun k hk => by
  have hk' : k < w.heap.size:=by
   rcases hk with rfl | h | ⟨y,hy,h⟩
   ·exact hbl
   ·exact (jCw hr h).2.1
   ·exact (jCw (hvs y hy) h).2.1
  exact ⟨Nat.lt_of_lt_of_le hk' hW.size,hW.block k hk'⟩
 have r_on : ∀ V,KpS (jNg bv v E) w V → V.ownsRow n0 75 10 v E.length (jIw (E.map Eb.it)):=fun V hV => jGy hr fun k hk => (hV k (.inr (.inl hk))).2
 have v_on : ∀ V,KpS (jNg bv v E) w V → (jEw E).q V:=fun V hV => (jEw E).on w V hvs fun k hk => (hV k (.inr (.inr hk))).2
 obtain ⟨a,cap,hva⟩:=jAr hr
 subst hva
 have c0 : W.cell? ⟨bv,0,none⟩ = some (.slice a E.length cap):=jGg ((K0 bv (.inl rfl)).2.trans hbv)
 obtain ⟨len,hlen⟩ : ∃ m,E.length = m:=⟨_,rfl⟩
 rw [hlen] at c0 hE K0 r_on v_on hfp
 refine callsIn_of_wp Tryz.func83 rfl trivial ?_ rfl
 simp only [Tryz.ntmps83,List.size_toArray,List.length_cons,List.length_nil,Nat.reduceAdd,Nat.reduceSub,Array.replicate_succ,Array.replicate_zero,List.push_toArray,List.append_toArray,List.nil_append,List.cons_append]
 gi_wp2
 gi_loopw [4,7] (fun _ i wr => ∃ (k : Nat) (pre : List jFf) (fp : Nat → Prop),k ≤ len ∧ i = .int .i64 k ∧ KpS (jNg bv (.slice a len cap) E) w wr ∧ J pre wr fp ∧ pre.map jFf.iv = (E.take k).map Eb.iv ∧ W.heap.size ≤ wr.heap.size) (fun _ i _ => len - (intOf i).toNat)
 case atStart => exact ⟨0,[],fp0,Nat.zero_le _,rfl,K0,h0,rfl,Nat.le_refl _⟩
 case round =>
  clear h0 K0 c0
  obtain ⟨k,pre,fp,hk,rfl,K2,h2,hpre,hsz⟩:=hrel
  by_cases hlt : k < len
  ·have hki : (k : Int) < (len : Int):=by omega
   have hkl : k < E.length:=by omega
   obtain ⟨y,hy⟩ : ∃ y,E[k]? = some y:=⟨_,List.getElem?_eq_getElem hkl⟩
   have hym:=List.mem_of_getElem? hy
   have hyl:=hok y hym
   obtain ⟨g,cap',e⟩:=jCk (r_on _ K2) (by omega)
   cases e
   have row:=it_row (x:=y.it) (r_on _ K2) (by rw [List.length_map,hlen]) (by rw [List.getElem?_map,hy];rfl)
   have q0:=row 0 _ rfl
   rw [Nat.add_zero] at q0
   have q1:=row 1 _ rfl
   have q2:=row 2 _ rfl
   have q3:=row 3 _ rfl
   have q4:=row 4 _ rfl
   have q5:=row 5 _ rfl
   have q6:=row 6 _ rfl
   have q7:=row 7 _ rfl
   have q8:=row 8 _ rfl
   have q9:=row 9 _ rfl
   clear row
   have e1 : E.take (k + 1) = E.take k ++ [y]:=by rw [List.take_add_one,hy];rfl
   have HP : Hid (∀ x : jFf,x.iv = y.iv → (pre ++ [x]).map jFf.iv = (E.take (k + 1)).map Eb.iv):=fun x hx => by
    rw [List.map_append,hpre,e1,List.map_append,List.map_singleton,List.map_singleton,hx]
   have HX : Hid ((E.take (k + 1)).map Eb.iv <+: E.map Eb.iv):=(List.take_prefix _ _).map _
   have bb:=(v_on _ K2 y hym).bs.alloc (.cells (itC y.it) 75)
   have hga:=World.grownBy_alloc wr (.cells (itC y.it) 75) none
   clear hpre e1 hy
   gi_wp2_with (refine ⟨trivial,?_⟩;gi_at_call 54;refine (callsIn_wide.2 (jNh y.iv (Nat.le_trans hyl (by decide)) bb)).mono ?_;rintro e w4 ⟨a4,c4,rfl,hv,hg⟩;have hgr:=jAt hga hg;have h3:=jZn hJ hfp h2 hgr;have K3:=K2.grown hgr;have hfp3:=hfp _ _ _ h3;obtain ⟨fn,tmps,assign,body,hyy,hR⟩:=hY pre ⟨y.iv,a4,c4⟩ w4 fp h3 (by rw [HP.out _ rfl];exact HX.out) (jDi.base hv (Nat.zero_le _)) (fun k' hk' => ⟨Nat.le_trans hsz (Nat.le_trans hga.size (jCw hv hk').1),(jCw hv hk').2.1,fun hf => Nat.not_lt_of_le (Nat.le_trans hga.size (jCw hv hk').1) (hfp _ _ _ h2 k' hf).1⟩);unfold jSe jFf.it at hyy;dsimp only at hyy;clear hv hg bb)
   refine hR.mono ?_
   rintro e W3 ⟨fp4,g4,-,⟨rfl,h4⟩ | ⟨rfl,h4⟩⟩
   ·have K4:=K3.step g4 hfp3
    have hs4:=Nat.le_trans hsz (Nat.le_trans hgr.size g4.size)
    gi_wp2
    go_roundw
    case rel => exact ⟨k + 1,_,fp4,by omega,by go_num,K4,h4,HP.out _ rfl,hs4⟩
    case measure => simp [intOf];omega
   ·gi_wp2
    refine bodyPost_ret (results_none rfl _ _ _) rfl ?_
    exact ⟨⟨_,rfl⟩,.inr ⟨_,fp4,by rw [HP.out _ rfl];exact HX.out,h4⟩⟩
  ·obtain rfl : k = len:=by omega
   have e1 : E.take k = E:=List.take_of_length_le (by omega)
   rw [e1] at hpre
   gi_wp2
   go_end0
   exact ⟨⟨_,rfl⟩,.inl ⟨_,fp,hpre,h2⟩⟩
end
section
open Go.RowKit Go.Shelf
attribute [local go_sem] Oper.semAt_some
attribute [-go_sem] Builtin.append_
variable {Sl : World → Nat → (Nat → Prop) → Sb → Prop} {Ls : World → Nat → (Nat → Prop) → Sr → Prop} {Jd : World → Nat → List Nat → Nat → Js → Prop} {Tb : World → Nat → (Nat → Prop) → Ts → Prop}
theorem jU9 : (Tryz.prog.info? 75).map (fun i => (i.zero,i.size,i.bytes)) = some (some (.agg (itC jBw)),10,88):=by kernel_rfl
theorem kNn (w : World) (cs : Array Value) (t : TypeId) : ∀ j u,cs.toList[j]? = some u → (w.alloc (.cells cs t)).cell? ((⟨w.heap.size,0,none⟩ : Addr).add j) = some u:=by
 intro j u h
 have h1:=heap_alloc_new w (.cells cs t)
 have e : (⟨w.heap.size,0,none⟩ : Addr).add j = ⟨w.heap.size,j,none⟩:=by simp [Addr.add];omega
 rw [e]
 unfold World.cell?
 simp only [h1]
 simpa using h
theorem it_one (i : It) : ∀ u ∈ (itC i).toList,u.oneCell' = true:=by
 have h:=jHu i
 rw [Array.all_eq_true_iff_forall_mem] at h
 exact fun u hu => h u (Array.mem_toList_iff.1 hu)
theorem kK0 {w : World} {y : Eb} (h : w.heap[y.blk]? = some (.cells y.cells 130 (0,0))) :
  w.drew.cell? ⟨y.blk,0,none⟩ = some (.string y.iv.key) ∧ w.drew.cell? ⟨y.blk,1,none⟩ = some (.slice y.a y.iv.val.length y.c) ∧ w.drew.cell? ⟨y.blk,2,none⟩ = some (.int .u32 y.iv.fl) ∧ w.drew.cell? ⟨y.blk,3,none⟩ = some (.int .i64 y.iv.exp) ∧
  w.drew.cell? ⟨y.blk,4,none⟩ = some (.int .u64 y.iv.cas) ∧ w.drew.cell? ⟨y.blk,5,none⟩ = some (.int .i64 y.iv.sec) ∧ w.drew.cell? ⟨y.blk,6,none⟩ = some (.int .u64 y.iv.seq) ∧ w.drew.cell? ⟨y.blk,7,none⟩ = some (.bool y.iv.st) ∧
  w.drew.cell? ⟨y.blk,8,none⟩ = some (.bool y.iv.won) ∧ w.drew.cell? ⟨y.blk,9,none⟩ = some (.bool y.iv.seen):=by
 have at_ : ∀ (j : Nat) (v : Value),y.cells[j]? = some v → w.drew.cell? ⟨y.blk,j,none⟩ = some v:=fun j v hv => by
  show w.cell? _ = _
  unfold World.cell?
  rw [h]
  exact hv
 exact ⟨at_ 0 _ rfl,at_ 1 _ rfl,at_ 2 _ rfl,at_ 3 _ rfl,at_ 4 _ rfl,at_ 5 _ rfl,at_ 6 _ rfl,at_ 7 _ rfl,at_ 8 _ rfl,at_ 9 _ rfl⟩
section
variable {L : jEk Sl Ls Jd Tb} {F : Nat → Prop} {w0 w : World} {b sd n : Nat} {st : Hs} {x : Sx} {R : jAd}
abbrev jIa (n0 bi : Nat) (v : Value) (E : List Eb) (k : Nat) : jAd:=(jB2 n0 75 10 v k (jIw ((E.take k).map Eb.it))).and ((jAn bi (.cells #[v] 149)).and jAd.emp)
def jL3 (w : World) (sz bi : Nat) (own2 : Nat → Prop) (E : List Eb) (pre : List Kv) (W : World) (fp : Nat → Prop) : Prop:=∃ v,fp = (jIa w.heap.size bi v E pre.length).own ∧ Law w W (jIa w.heap.size bi v E pre.length) ∧ (∀ k,own2 k → ¬ fp k) ∧ sz ≤ W.heap.size
theorem jL3.lasts {w : World} {sz bi B : Nat} {own2 : Nat → Prop} {E : List Eb} (hB : w.heap.size ≤ B) : jD5 B (jL3 w sz bi own2 E):=by
 rintro pre V V' fp ⟨v,rfl,H,h2,h3⟩ hg hs
 exact ⟨v,rfl,⟨Gr.below H.below hg (fun k hk => Nat.le_trans hB hk),(jIa w.heap.size bi v E pre.length).on V V' H.q hs,fun k hk => ⟨(H.lt k hk).1,Nat.lt_of_lt_of_le (H.lt k hk).2 hg.size⟩⟩,h2,Nat.le_trans h3 hg.size⟩
theorem jL3.foot {w : World} {sz bi : Nat} {own2 : Nat → Prop} {E : List Eb} : ∀ pre V fp,jL3 w sz bi own2 E pre V fp → ∀ k,fp k → k < V.heap.size ∧ ¬ own2 k:=by
 rintro pre V fp ⟨v,rfl,H,h2,h3⟩ k hk
 exact ⟨(H.lt k hk).2,fun h => h2 k h hk⟩
theorem jL3.next {w W w8 : World} {sz bi : Nat} {own2 : Nat → Prop} {E : List Eb} {pre : List Kv} {p : Kv} {y : Eb} {v v' : Value} {tmp : Obj} (H : Law w W (jIa w.heap.size bi v E pre.length)) (h2 : ∀ k,own2 k → ¬ (jIa w.heap.size bi v E pre.length).own k) (h3 : sz ≤ W.heap.size) (ho : ∀ k,own2 k → k < sz) (hy : E[pre.length]? = some y)
  (hown : w8.ownsRow w.heap.size 75 10 v' (pre.length + 1) (jIw ((E.take pre.length).map Eb.it) ++ (itC y.it).toList)) (hgrow : (W.drew.alloc tmp).grownBy w8 v.ownBlock) (hat : v'.ownBlock = v.ownBlock ∨ v'.ownBlock = some (W.drew.alloc tmp).heap.size) :
  w8.cell? ⟨bi,0,none⟩ = some v ∧ w8.frozen? ⟨bi,0,none⟩ = false ∧ ∃ fp',Gr (jIa w.heap.size bi v E pre.length).own W (w8.setCell ⟨bi,0,none⟩ v') ∧ jBm W (fun k => (jIa w.heap.size bi v E pre.length).own k ∨ False) fp' ∧ jL3 w sz bi own2 E (pre ++ [p]) (w8.setCell ⟨bi,0,none⟩ v') fp':=by
 have H0 : Law w W.drew (jAd.emp.and (jIa w.heap.size bi v E pre.length)):=⟨H.drew.below,⟨trivial,H.drew.q,fun _ h => h.elim⟩,fun k hk => hk.elim (fun h => h.elim) (H.drew.lt k)⟩
 obtain ⟨hb,H1,hG,hGr⟩:=kE1 H0 hown hgrow hat
 have e1 : E.take (pre ++ [p]).length = E.take pre.length ++ [y]:=by rw [List.length_append,List.length_singleton,List.take_add_one,hy];rfl
 have e2 : jIw ((E.take (pre ++ [p]).length).map Eb.it) = jIw ((E.take pre.length).map Eb.it) ++ (itC y.it).toList:=by rw [e1,List.map_append,List.map_singleton,kKa]
 have e3 : (pre ++ [p]).length = pre.length + 1:=by simp
 refine ⟨hb.cell,hb.frozen,(jIa w.heap.size bi v' E (pre ++ [p]).length).own,⟨hG.os,hG.tape,hG.output,hG.size,hG.block⟩,fun k hk => ?_,v',rfl,?_,fun k hk hf => ?_,?_⟩
 ·exact (hGr k hk).imp .inl id
 ·have:=H1.right
  unfold jIa
  rw [e2,e3]
  exact this
 ·rcases hGr k hf with h | h
  ·exact h2 k hk h
  ·exact Nat.not_lt_of_le (Nat.le_trans h3 h) (ho k hk)
 ·exact Nat.le_trans h3 hG.size
theorem kGj (c : Nat) (hc : c ≤ 1000) : ∃ CC : Array Value,CC.size = c * 10 ∧ ∀ u : World,(Instr.makeSlice 149 (.int .i64 0) (.int .i64 (c : Int))).run Tryz.prog u = .ok (.slice (some ⟨u.heap.size,0,none⟩) 0 c) (u.alloc (.cells CC 75)):=by
 obtain ⟨i0,hi,hz0,hz1,hz2⟩:=info_parts jU9
 refine ⟨madeCells (itC jBw) (c * i0.size),by rw [size_madeCells,hz1],fun u => (run_make (P:=Tryz.prog) u 149 75 i0 _ Tryz.underlying149 hi hz0 .i64 .i64 0 (c : Int) (by omega) (by omega) (by rw [hz2];omega) (by omega)).trans (by simp only [Int.toNat_zero,Int.toNat_natCast];rfl)⟩
theorem all_in (H : jAb F w w ((shP L b sd st x).and R)) (f : Fit n st x) (hn : n ≤ 4398046511104) :
  Calls Tryz.prog 45 #[.pointer (some ⟨b,0,none⟩)] w fun e w' => ∃ B v,e = .returned (.func (.func 83) #[] #[.pointer (some ⟨B,0,none⟩)]) ∧ Law w w' (jIa w.heap.size B v x.E x.E.length):=by
 refine (callsIn_wide (n:=9)).1 ?_
 obtain ⟨i0,hi,hz0,hz1,hz2⟩:=info_parts jU9
 have hlen : st.ents.length = x.E.length:=by rw [f.ents,List.length_map]
 have hE : x.E.length ≤ 901:=by
  have:=f.good.nine.1
  omega
 have h5:=f.small5 hn
 obtain ⟨c,hc⟩ : ∃ c,x.E.length = c:=⟨_,rfl⟩
 have hc9 : c ≤ 901:=by omega
 obtain ⟨CC,hCC,hmk⟩:=kGj c (by omega)
 have hsc : ((st.ents.length : Nat) : Int) = (c : Int):=by omega
 have HSC:=jAa hsc
 have hmix : Tryz.prog.follows .mixedOrders = true:=by kernel_rfl
 clear hsc hlen
 refine callsIn_of_wp_marks Tryz.func45 rfl trivial ?_ rfl
 simp only [Tryz.ntmps45,List.size_toArray,List.length_cons,List.length_nil,Nat.reduceAdd,Nat.reduceSub,Array.replicate_succ,Array.replicate_zero,List.push_toArray,List.append_toArray,List.nil_append,List.cons_append]
 gi_wp2_with (first
  | (refine ⟨trivial,?_⟩;gi_at_call 81;refine (callsIn_wide.2 (kEp H f hn)).mono ?_;rintro e w1 ⟨he,hg1⟩;rw [HSC.out] at he;subst he;have g2:=jAt (jAt hg1 (World.grownBy_alloc w1 (.cells CC 75) none)) (World.grownBy_alloc (w1.alloc (.cells CC 75)) (.cells #[.slice (some ⟨w1.heap.size,0,none⟩) 0 c] 149) none);have H2:=H.step g2;obtain ⟨c0,-⟩:=H2.headC)
  | (refine ⟨trivial,?_⟩;gi_at_call 82;refine (callsIn_wide.2 (L.tb.all H2.tabl h5)).mono ?_;rintro e w3 ⟨g,lb,own2,rfl,hT3,hg3,ho1,ho2,heg,hseq⟩))
 have hsz3:=hg3.size
 simp only [World.size_alloc] at hsz3
 have hs1:=hg1.size
 have hlt2 : ∀ k,own2 k → k < w3.heap.size:=fun k hk => (ho2 k hk).elim (fun h => Nat.lt_of_lt_of_le (H2.atLt (A:=jMe L x.tb x.tw x.ts) 1 rfl k h) hg3.size) fun h => h.2
 have hw3 : w.heap.size ≤ w3.heap.size:=by omega
 have I0 : jL3 w w3.heap.size (w1.heap.size + 1) own2 x.E [] w3 (jIa w.heap.size (w1.heap.size + 1) (.slice (some ⟨w1.heap.size,0,none⟩) 0 c) x.E 0).own:=by
  have hL0 : Law w w1 jAd.emp:=Law.ofBelow (jDv hg1)
  have hrow : (w1.alloc (.cells CC 75)).ownsRow w.heap.size 75 10 (.slice (some ⟨w1.heap.size,0,none⟩) 0 c) 0 []:=⟨rfl,.inr ⟨w1.heap.size,c,CC,rfl,hs1,heap_alloc_new w1 _,Nat.zero_le _,Nat.le_trans hc9 (by decide),hCC,by simp⟩⟩
  have hL1:=hL0.new (A:=jB2 w.heap.size 75 10 (.slice (some ⟨w1.heap.size,0,none⟩) 0 c) 0 []) (World.grownBy_alloc w1 _ none) hrow (fun k hk => by cases hk;rw [World.size_alloc];exact ⟨Nat.le_refl _,Nat.lt_succ_self _⟩)
  have hL2:=((hL1.box (.cells #[.slice (some ⟨w1.heap.size,0,none⟩) 0 c] 149)).rot).step hg3
  rw [World.size_alloc] at hL2
  refine ⟨_,rfl,hL2,fun k hk hf => ?_,Nat.le_refl _⟩
  rcases ho2 k hk with h | h
  ·have h1:=H.atLt (A:=jMe L x.tb x.tw x.ts) 1 rfl k h
   have h2:=(hL2.lt k hf).1
   omega
  ·have h1:=h.1
   simp only [World.size_alloc] at h1
   rcases hf with hf | hf | hf
   ·obtain rfl : k = w1.heap.size:=(Option.some.inj hf).symm
    omega
   ·obtain rfl : k = w1.heap.size + 1:=hf
    omega
   ·exact hf
 have HY : Hid (∀ (pre : List Kv) (p : Kv),pre ++ [p] <+: x.ts.l → ∃ y,x.E[pre.length]? = some y ∧ p = y.kv):=fun pre p hp => by
  obtain ⟨r,hr⟩:=hp
  have h1 : x.ts.l[pre.length]? = some p:=by rw [← hr];simp
  rw [f.tab,List.getElem?_map] at h1
  obtain ⟨y,h2,h3⟩:=Option.map_eq_some_iff.1 h1
  exact ⟨y,h2,h3.symm⟩
 have HN : Hid (x.ts.l.length = x.E.length):=by show _ = _;rw [f.tab,List.length_map]
 have HEnt : Hid (∀ y ∈ x.E,w.heap[y.blk]? = some (.cells y.cells 130 (0,0))):=fun y hy => H.entAt hy
 clear H2 c0 g2 hsz3 ho2 hT3 hg3 H hmk hCC h5 hc9
 refine kDu rfl (by decide) (gf:=g) (lb:=lb) rfl trivial heg (hseq (9 - 1) (by decide)) (Below.refl _ _) hlt2 (fun _ => rfl)
  (jL3 w w3.heap.size (w1.heap.size + 1) own2 x.E) (fun _ _ _ _ => False) _ (jL3.lasts hw3) (fun c pre V V' fp h => h.elim) jL3.foot I0 ?act ?assign ?body ?done ?stop
 case assign =>
  intro l x W K hK
  unfold jWi
  gi_wp2
  exact hK
 case body =>
  rintro l pre p W fp ⟨v,rfl,HJ,hj2,hj3⟩ hsp - -
  obtain ⟨y,hy,rfl⟩:=HY.out pre p hsp
  have hym:=List.mem_of_getElem? hy
  have hylt:=(List.getElem?_eq_some_iff.1 hy).1
  have hent:=HEnt.out y hym
  have hWe : W.heap[y.blk]? = some (.cells y.cells 130 (0,0)):=(HJ.below.block y.blk (Array.getElem?_eq_some_iff.1 hent).1).trans hent
  have hrow : W.ownsRow w.heap.size 75 10 v pre.length (jIw ((x.E.take pre.length).map Eb.it)):=HJ.q.1
  have hbox : W.heap[w1.heap.size + 1]? = some (.cells #[v] 149):=HJ.q.2.1.1
  have hbl:=(Array.getElem?_eq_some_iff.1 hbox).1
  have hyl:=(Array.getElem?_eq_some_iff.1 hWe).1
  obtain ⟨v',w8,hrun,hown,hgrow,-,hat⟩:=run_append_own_at (P:=Tryz.prog) (W.drew.alloc (.cells (itC y.it) 75)) w.heap.size 149 149 75 i0 _ 10 88 Tryz.underlying149 hi hz0 hz1 hz2 rfl (by decide) v pre.length _ (World.ownsRow.alloc (show W.drew.ownsRow _ _ _ _ _ _ from hrow) _) ⟨W.heap.size,0,none⟩ 1 1 (itC y.it).toList rfl (kNn W.drew _ _) (it_one y.it) (by unfold maxLen;omega) (by omega) (by rw [World.size_alloc];have:=HJ.below.size;show _ ≤ W.heap.size + 1;omega)
  obtain ⟨g',cap',rfl⟩:=ownsRow_succ hown
  obtain ⟨hb8,hf8,HZ⟩:=jL3.next (p:=y.kv) HJ hj2 hj3 hlt2 hy hown hgrow hat
  replace HZ:=jAa HZ
  obtain ⟨e0,e1,e2,e3,e4,e5,e6,e7,e8,e9⟩:=kK0 hWe
  have hc1 : W.drew.cell? ⟨w1.heap.size + 1,0,none⟩ = some v:=jGg hbox
  have hc2 : (W.drew.alloc (.cells (itC y.it) 75)).cell? ⟨w1.heap.size + 1,0,none⟩ = some v:=jGg ((Below.heap_alloc _ _ _ hbl).trans hbox)
  have EC : itC y.it = #[.string y.iv.key,.slice y.a y.iv.val.length y.c,.int .u32 y.iv.fl,.int .i64 y.iv.exp,.int .u64 y.iv.cas,.int .i64 y.iv.sec,.int .u64 y.iv.seq,.bool y.iv.st,.bool y.iv.won,.bool y.iv.seen]:=rfl
  rw [EC] at hrun hc2
  have hrun2 : (Builtin.append_ #[149,149] 149 #[v,.slice (some ⟨W.heap.size,0,none⟩) 1 1]).run Tryz.prog (W.alloc (.cells #[.string y.iv.key,.slice y.a y.iv.val.length y.c,.int .u32 y.iv.fl,.int .i64 y.iv.exp,.int .u64 y.iv.cas,.int .i64 y.iv.sec,.int .u64 y.iv.seq,.bool y.iv.st,.bool y.iv.won,.bool y.iv.seen] 75)).drew = .ok _ w8:=hrun
  have hc3 : (W.alloc (.cells #[.string y.iv.key,.slice y.a y.iv.val.length y.c,.int .u32 y.iv.fl,.int .i64 y.iv.exp,.int .u64 y.iv.cas,.int .i64 y.iv.sec,.int .u64 y.iv.seq,.bool y.iv.st,.bool y.iv.won,.bool y.iv.seen] 75)).drew.cell? ⟨w1.heap.size + 1,0,none⟩ = some v:=hc2
  clear hrun hc2
  unfold Eb.kv
  simp only [Int.toNat_natCast]
  clear hown hgrow hat hrow hbox HJ hj2 hWe EC hent
  gi_wp2
  gi_region_with_o (fail)
  all_goals
   obtain ⟨fp',q1,q2,q3⟩:=HZ.out
   exact ⟨fp',q1,q2,q3⟩
 case stop =>
  rintro D c pre W fp hD hpre h hK hnD
  exact h.elim
 case done =>
  rintro D ys W fp hD rfl ⟨v,rfl,HJ,hj2,hj3⟩ hK hnD
  rw [HN.out] at HJ hnD
  have HE : Law w (W.putObj D (.deferred none)) (jIa w.heap.size (w1.heap.size + 1) v x.E x.E.length):=by
   have hg:=jEj (W:=W) (F:=fun k => k = D) (.deferred none) rfl
   exact ⟨Gr.below HJ.below hg (fun k hk => by omega),jAd.on _ _ _ HJ.q fun k hk => World.putObj_heap_other fun e => hnD (by rw [← e];exact hk),fun k hk => ⟨(HJ.lt k hk).1,Nat.lt_of_lt_of_le (HJ.lt k hk).2 hg.size⟩⟩
  gi_wp2
  refine ⟨by simp,.inl ⟨_,_,rfl,run_takeDeferred hK,?_⟩⟩
  exact ⟨_,results_tmp rfl _ _ _,_,_,rfl,HE⟩
end
end
end Go.Proofs.YtkfeafmpaodagaaGreatDoor
