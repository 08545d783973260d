/- makeRoom of package shard: the search for room. Conditions: the contracts of the packages beneath it; at most 900 stores, keys of at most 300 bytes. -/
import Derived.Test.YtkfeafmpaodagaaGreatDoorG23Joined
import Derived.WalkMore
namespace Go.Proofs.YtkfeafmpaodagaaGreatDoor
set_option maxHeartbeats 16000000
open Go.RowKit Go.Shelf
variable {Sl : World → Nat → (Nat → Prop) → Sb → Prop} {Ls : World → Nat → (Nat → Prop) → Sr → Prop} {Jd : World → Nat → List Nat → Nat → Js → Prop} {Tb : World → Nat → (Nat → Prop) → Ts → Prop}
theorem kJ7 {P : Nat → Prop} : ∀ m,P m → ∃ m,P m ∧ ∀ k,P k → m ≤ k:=by
 intro m
 induction m using Nat.strongRecOn with
 | _ m ih =>
  intro hm
  by_cases h : ∃ k,k < m ∧ P k
  ·obtain ⟨k,hk,hp⟩:=h
   exact ih k hk hp
  ·exact ⟨m,hm,fun k hk => Nat.le_of_not_lt fun hl => h ⟨k,hl,hk⟩⟩
theorem jW9 {α : Type} (P : Nat → α → Prop) : ∃ mu : α → Nat,∀ w,(∃ m,P m w) → P (mu w) w ∧ ∀ k,P k w → mu w ≤ k:=by
 have h : ∀ w,∃ m,(∃ m,P m w) → P m w ∧ ∀ k,P k w → m ≤ k:=fun w => by
  by_cases h : ∃ m,P m w
  ·obtain ⟨m,hm⟩:=h
   obtain ⟨l,hl⟩:=kJ7 (P:=fun m => P m w) m hm
   exact ⟨l,fun _ => hl⟩
  ·exact ⟨0,fun h' => absurd h' h⟩
 exact ⟨fun w => Classical.choose (h w),fun w => Classical.choose_spec (h w)⟩
def jLk (L : jEk Sl Ls Jd Tb) (F : Nat → Prop) (w0 : World) (b sd n : Nat) (R : jAd) (i : Iv) (a : Option Addr) (c : Nat) (en : En) (wb : Nat) (had : Option Eb) (res : Int × Hs) (m : Nat) (wr : World) : Prop :=
 ∃ st x,jAb F w0 wr ((shP L b sd st x).and ((jAn wb (.cells (itC (jAe i a c)) 75)).and ((jAn (wb + 1) (.cells (enC en) 35)).and R))) ∧ Fit n st x ∧ jBq i.key x.E = had ∧ jAz sd i (had.map Eb.ent) en st = res ∧ x.E.length = m
def jQe (L : jEk Sl Ls Jd Tb) (F : Nat → Prop) (w0 : World) (b sd n : Nat) (R : jAd) (i : Iv) (had : Option Eb) (res : Int × Hs) (e : Ending) (w' : World) : Prop :=
 e = .returned (.int .i64 res.1) ∧ ∃ E,jH9 L F w0 w' b sd n R res.2 E ∧ jBq i.key E = had
theorem jMj {k v : ByteArray} {E : List Eb} (h : k ≠ v) : jBq k (jFs v E) = jBq k E:=by
 unfold jBq jFs
 rw [List.find?_filter]
 congr 1
 funext y
 by_cases e : y.iv.key = k
 ·simp [e,h]
 ·simp [e]
theorem jRp {v : ByteArray} {E : List Eb} {y : Eb} (h : jBq v E = some y) : (jFs v E).length < E.length:=by
 obtain ⟨h1,h2⟩:=jFl h
 exact List.length_filter_lt_length_iff_exists.2 ⟨y,h1,by simp [h2]⟩
section
variable {L : jEk Sl Ls Jd Tb} {F : Nat → Prop} {w0 w : World} {b sd n : Nat} {st : Hs} {x : Sx} {R : jAd}
theorem jD8 {W : World} {k : Nat} {i : Iv} {a : Option Addr} {c : Nat} {t : TypeId} (h : W.heap[k]? = some (.cells (itC (jAe i a c)) t (0,0))) : W.cell? ⟨k,0,none⟩ = some (.string i.key):=(jAk h).1
theorem jL1 {W : World} {A B : jAd} {i : Iv} {en : En} {had : Option Eb} {hE : Option Ent} {res : Int × Hs} {r : Int} (hr1 : jAz sd i hE en st = res) (hr : jAz sd i hE en st = (r,st)) (H : jAb F w0 W ((shP L b sd st x).and (A.and (B.and R)))) (f : Fit n st x) (hh : jBq i.key x.E = had) : jQe L F w0 b sd n R i had res (.returned (.int .i64 r)) W:=by
 rw [hr] at hr1
 rw [← hr1]
 exact ⟨rfl,x.E,⟨x,H.unbox.unbox,f,rfl⟩,hh⟩
theorem jMm {W wr : World} {i : Iv} {a : Option Addr} {c : Nat} {en : En} {wb m : Nat} {had : Option Eb} {res : Int × Hs} {mu : World → Nat} (hmu : ∀ w,(∃ m,jLk L F w0 b sd n R i a c en wb had res m w) → jLk L F w0 b sd n R i a c en wb had res (mu w) w ∧ ∀ k,jLk L F w0 b sd n R i a c en wb had res k w → mu w ≤ k) (hm : m = mu wr)
  (H : jAb F w0 W ((shP L b sd st x).and ((jAn wb (.cells (itC (jAe i a c)) 75)).and ((jAn (wb + 1) (.cells (enC en) 35)).and R)))) (f : Fit n st x) (hh : jBq i.key x.E = had) (hr : jAz sd i (had.map Eb.ent) en st = res) (hl : x.E.length < m) : (∃ m,jLk L F w0 b sd n R i a c en wb had res m W) ∧ mu W < mu wr:=by
 have hI : jLk L F w0 b sd n R i a c en wb had res x.E.length W:=⟨st,x,H,f,hh,hr,rfl⟩
 refine ⟨⟨_,hI⟩,?_⟩
 have:=(hmu W ⟨_,hI⟩).2 _ hI
 omega
theorem jVl (f : Fit n st x) {v : ByteArray} {z : Ent} {en : En} (hz : jA0 v st.ents = some z) (hl : jCn z.1 en = false) : jE6 v en x.E = none ∧ jAy st v en = jBy st v ∧ jEm v en x.E = jFs v x.E ∧ (jFs v x.E).length < x.E.length:=by
 rw [f.find] at hz
 obtain ⟨y,hy,rfl⟩:=Option.map_eq_some_iff.1 hz
 have hl' : ¬ jCn y.iv en = true:=by rw [show jCn y.iv en = false from hl];decide
 refine ⟨by unfold jE6;rw [hy];exact if_neg hl',by unfold jAy;rw [f.some hy];exact if_neg hl',by unfold jEm;rw [hy];exact if_neg hl',jRp hy⟩
theorem jU0 (f : Fit n st x) {v : ByteArray} {z : Ent} {en : En} (hz : jA0 v st.ents = some z) (hl : jCn z.1 en = true) : ∃ y,jE6 v en x.E = some y ∧ jAy st v en = st ∧ jEm v en x.E = x.E ∧ jBq v x.E = some y:=by
 rw [f.find] at hz
 obtain ⟨y,hy,rfl⟩:=Option.map_eq_some_iff.1 hz
 exact ⟨y,by unfold jE6;rw [hy];exact if_pos hl,by unfold jAy;rw [f.some hy];exact if_pos hl,by unfold jEm;rw [hy];exact if_pos hl,hy⟩
set_option maxRecDepth 100000 in
theorem kH3 (H : jAb F w0 w ((shP L b sd st x).and R)) (f : Fit n st x) (hn : n ≤ 4398046511104) (i : Iv) (hi : i.ok) (a : Option Addr) (c : Nat) (en : En) (hen : en.ok) (hh : jBq i.key x.E = none) :
  Calls Tryz.prog 164 #[.pointer (some ⟨b,0,none⟩),.agg (itC (jAe i a c)),.pointer none,.agg (enC en)] w (jQe L F w0 b sd n R i none (jAz sd i none en st)):=by
 have mixed : Tryz.prog.follows .mixedOrders = true:=by kernel_rfl
 have hk3:=hi.key
 have hv3:=hi.val
 have hkm : i.key.size ≤ maxLen:=Nat.le_trans hk3 (by decide)
 have HZ:=jAa (fun W => L.it.size (jAe i a c) W (Nat.le_trans hk3 (by decide)) (Nat.le_trans hv3 (by decide)))
 rw [show (50 + ((jAe i a c).key.size : Nat) + ((jAe i a c).vl : Nat) : Int) = jAl i from rfl] at HZ
 have hsz : I64 (jAl i):=by
  unfold jAl
  constructor <;> omega
 have h0 : I64 0:=⟨by decide,by decide⟩
 have H0:=(((H.box (.cells (itC (jAe i a c)) 75)).box (.cells (enC en) 35)).rin.rot).rin
 rw [World.size_alloc] at H0
 obtain ⟨mu,hmu⟩:=jW9 (jLk L F w0 b sd n R i a c en w.heap.size none (jAz sd i none en st))
 clear H
 go_enter Tryz.func164,Tryz.ntmps164
 go_wp2
 go_step3
 go_wp2_with (first
  | (refine ldI w.heap.size (jAe i a c) rfl _ rfl rfl H0.rot.q.1 ?_)
  | (go_at_call 163;refine (HZ.out _).mono ?_;rintro e w1 ⟨rfl,hg⟩;have H1:=H0.step hg.grown;clear hg))
 go_step3
 go_wp2
 go_loopw [11] (fun _ wr => ∃ m,jLk L F w0 b sd n R i a c en w.heap.size none (jAz sd i none en st) m wr) (fun _ wr => mu wr)
 case atStart => exact ⟨_,st,x,H1,f,hh,rfl,rfl⟩
 case round =>
  clear H1 H0 f hh
  obtain ⟨st1,x1,H1,f1,hh1,hr1,hm1⟩:=(hmu wr hrel).1
  replace H1:=H1.drew
  clear hrel
  have HM1:=jAa hm1
  have HR1:=jAa hr1
  have HH1:=jAa hh1
  clear hm1 hr1 hh1
  have hlR:=Nat.le_of_lt (f1.lenR hn)
  have hsS:=f1.smallS hn
  obtain ⟨-,c1,c2,-,-⟩:=H1.headC
  have c3:=jD8 H1.rot.q.1
  rcases jH1 f1.good sd i none en with ⟨hf,hr⟩ | ⟨hf,⟨hv,hr⟩ | ⟨v,z,hv,hz,hne,hsv,hc⟩⟩
  ·have HF : Hid (jB3 st1.slab (jAl i) 0 = true):=hf
   have HR:=jAa hr
   clear hf hr
   go_upto_region 4 with fail
   go_region_held (fun w' => w'.cell? ⟨b,2,none⟩ = some (.pointer (some ⟨x1.ob,0,none⟩)) ∧ w'.cell? ⟨w.heap.size,0,none⟩ = some (.string i.key)) (first | exact ⟨c5,c6⟩ | exact ⟨c2,c3⟩) ((go_at_call 191;refine (L.ls.victim H1.list hlR i.key hkm).mono ?_;rintro e w2 ⟨he,hL,hg⟩;subst he;have H2:=H1.step hg;clear hL hg;obtain ⟨-,c4,c5,c7,-⟩:=H2.headC;have c6:=jD8 H2.rot.q.1))
   go_wp2_with (go_at_call 192;refine (L.sl.fits H2.slab hsS (jAl i) 0 hsz h0).mono ?_;rintro e w3 ⟨he,hS,hg⟩;rw [HF.out] at he;subst he;have H3:=H2.step hg;clear hS hg)
   try rw [Exit.noGoto_ret]
   go_ret
   exact jL1 HR1.out HR.out H3 f1 HH1.out
  ·have HF : Hid (jB3 st1.slab (jAl i) 0 = false):=hf
   have HR:=jAa hr
   have HV:=jAa hv
   clear hf hr hv
   go_upto_region 4 with fail
   go_region_held (fun w' => w'.cell? ⟨b,2,none⟩ = some (.pointer (some ⟨x1.ob,0,none⟩)) ∧ w'.cell? ⟨w.heap.size,0,none⟩ = some (.string i.key)) (first | exact ⟨c5,c6⟩ | exact ⟨c2,c3⟩) ((go_at_call 191;refine (L.ls.victim H1.list hlR i.key hkm).mono ?_;rintro e w2 ⟨he,hL,hg⟩;rw [HV.out] at he;have he2 : e = .returned (.tuple #[.string ⟨#[]⟩,.bool false]):=he;subst he2;clear he;have H2:=H1.step hg;clear hL hg;obtain ⟨-,c4,c5,c7,-⟩:=H2.headC;have c6:=jD8 H2.rot.q.1))
   go_wp2_with (go_at_call 192;refine (L.sl.fits H2.slab hsS (jAl i) 0 hsz h0).mono ?_;rintro e w3 ⟨he,hS,hg⟩;rw [HF.out] at he;subst he;have H3:=H2.step hg;clear hS hg)
   try rw [Exit.noGoto_ret]
   go_ret
   exact jL1 HR1.out HR.out H3 f1 HH1.out
  ·have HF : Hid (jB3 st1.slab (jAl i) 0 = false):=hf
   have HV:=jAa hv
   have HNE:=jAa hne
   clear hf hv hne
   cases hlz : jCn z.1 en with
   | false =>
    obtain ⟨q1,q2,q3,q4⟩:=jVl f1 hz hlz
    have HLB:=jAa (show jE6 v en x1.E = none ∧ jAy st1 v en = jBy st1 v ∧ jEm v en x1.E = jFs v x1.E from ⟨q1,q2,q3⟩)
    have HQ:=jAa q4
    have hr : jAz sd i none en st1 = jAz sd i none en (jBy st1 v):=by
     rcases hc with ⟨h1,_⟩ | ⟨_,h2⟩
     ·rw [hlz] at h1
      cases h1
     ·exact h2
    have HR:=jAa hr
    clear q1 q2 q3 q4 hr hc hlz
    go_upto_region 4 with fail
    go_region_held (fun w' => w'.cell? ⟨b,2,none⟩ = some (.pointer (some ⟨x1.ob,0,none⟩)) ∧ w'.cell? ⟨w.heap.size,0,none⟩ = some (.string i.key)) (first | exact ⟨c5,c6⟩ | exact ⟨c2,c3⟩) ((go_at_call 191;refine (L.ls.victim H1.list hlR i.key hkm).mono ?_;rintro e w2 ⟨he,hL,hg⟩;rw [HV.out] at he;have he2 : e = .returned (.tuple #[.string v,.bool true]):=he;subst he2;clear he;have H2:=H1.step hg;clear hL hg;obtain ⟨-,c4,c5,c7,-⟩:=H2.headC;have c6:=jD8 H2.rot.q.1))
    go_wp2_with (first
     | (go_at_call 192;refine (L.sl.fits H2.slab hsS (jAl i) 0 hsz h0).mono ?_;rintro e w3 ⟨he,hS,hg⟩;rw [HF.out] at he;subst he;have H3:=H2.step hg;clear hS hg)
     | (refine ldE (w.heap.size + 1) en rfl _ rfl rfl H3.rot.right.rot.q.1 ?_)
     | (go_at_call 53;refine (jFq H3 f1 hn v hsv en hen).mono ?_;rw [HLB.out.1,HLB.out.2.1,HLB.out.2.2];rintro e w4 ⟨he,x4,H4,f4,hE4⟩;have he2 : e = .returned (.pointer none):=he;subst he2;clear he))
    have N:=jAa (jMm hmu HM1.out H4 f4 (by rw [hE4,jMj (fun e => HNE.out e.symm)];exact HH1.out) (by rw [← HR1.out];exact HR.out.symm) (by rw [hE4];exact HQ.out))
    go_roundw
    case rel => exact N.out.1
    case measure => exact N.out.2
   | true =>
    obtain ⟨u,q1,q2,q3,q4⟩:=jU0 f1 hz hlz
    have HLB:=jAa (show jE6 v en x1.E = some u ∧ jAy st1 v en = st1 ∧ jEm v en x1.E = x1.E from ⟨q1,q2,q3⟩)
    have HQ:=jAa q4
    clear q1 q2 q3 q4
    rcases hc with ⟨_,_,hadm,hr⟩ | ⟨hor,hr⟩
    ·have HA : Hid (decide (jCt sd st1.jd v.data.toList < jCt sd st1.jd i.key.data.toList) = false):=hadm
     have HR:=jAa hr
     clear hr hadm hlz
     go_upto_region 4 with fail
     go_region_held (fun w' => w'.cell? ⟨b,2,none⟩ = some (.pointer (some ⟨x1.ob,0,none⟩)) ∧ w'.cell? ⟨w.heap.size,0,none⟩ = some (.string i.key)) (first | exact ⟨c5,c6⟩ | exact ⟨c2,c3⟩) ((go_at_call 191;refine (L.ls.victim H1.list hlR i.key hkm).mono ?_;rintro e w2 ⟨he,hL,hg⟩;rw [HV.out] at he;have he2 : e = .returned (.tuple #[.string v,.bool true]):=he;subst he2;clear he;have H2:=H1.step hg;clear hL hg;obtain ⟨-,c4,c5,c7,-⟩:=H2.headC;have c6:=jD8 H2.rot.q.1))
     go_upto_region 10 with (first
      | (go_at_call 192;refine (L.sl.fits H2.slab hsS (jAl i) 0 hsz h0).mono ?_;rintro e w3 ⟨he,hS,hg⟩;rw [HF.out] at he;subst he;have H3:=H2.step hg;clear hS hg)
      | (refine ldE (w.heap.size + 1) en rfl _ rfl rfl H3.rot.right.rot.q.1 ?_)
      | (go_at_call 53;refine (jFq H3 f1 hn v hsv en hen).mono ?_;rw [HLB.out.1,HLB.out.2.1,HLB.out.2.2];rintro e w4 ⟨he,x4,H4,f4,hE4⟩;have he2 : e = .returned (.pointer (some ⟨u.blk,0,none⟩)):=he;subst he2;clear he))
     replace H4:=H4.drew
     obtain ⟨-,-,-,c8,-⟩:=H4.headC
     have c9:=jD8 H4.rot.q.1
     go_region_held (fun w' => w'.cell? ⟨b,3,none⟩ = some (.pointer (some ⟨x4.jb,0,none⟩)) ∧ w'.cell? ⟨w.heap.size,0,none⟩ = some (.string i.key)) (first | exact ⟨d8,d9⟩ | exact ⟨c8,c9⟩) ((go_at_call 193;refine (L.jd.admits H4.judge i.key v hk3 hsv).mono ?_;rintro e w5 ⟨he,hJ,hg⟩;rw [HA.out] at he;subst he;have H5:=H4.step hg;clear hJ hg;obtain ⟨-,-,-,d8,-⟩:=H5.headC;have d9:=jD8 H5.rot.q.1))
     all_goals
      go_wp2_with fail
      try rw [Exit.noGoto_ret]
      go_ret
      exact jL1 HR1.out HR.out H5 f4 (by rw [hE4];exact HH1.out)
    ·have HA : Hid (decide (jCt sd st1.jd v.data.toList < jCt sd st1.jd i.key.data.toList) = true):=by
      rcases hor with h1 | h1 | h1
      ·rw [hlz] at h1
       cases h1
      ·exact absurd rfl h1
      ·exact h1
     have HR:=jAa hr
     clear hr hor hlz
     go_upto_region 4 with fail
     go_region_held (fun w' => w'.cell? ⟨b,2,none⟩ = some (.pointer (some ⟨x1.ob,0,none⟩)) ∧ w'.cell? ⟨w.heap.size,0,none⟩ = some (.string i.key)) (first | exact ⟨c5,c6⟩ | exact ⟨c2,c3⟩) ((go_at_call 191;refine (L.ls.victim H1.list hlR i.key hkm).mono ?_;rintro e w2 ⟨he,hL,hg⟩;rw [HV.out] at he;have he2 : e = .returned (.tuple #[.string v,.bool true]):=he;subst he2;clear he;have H2:=H1.step hg;clear hL hg;obtain ⟨-,c4,c5,c7,-⟩:=H2.headC;have c6:=jD8 H2.rot.q.1))
     go_upto_region 10 with (first
      | (go_at_call 192;refine (L.sl.fits H2.slab hsS (jAl i) 0 hsz h0).mono ?_;rintro e w3 ⟨he,hS,hg⟩;rw [HF.out] at he;subst he;have H3:=H2.step hg;clear hS hg)
      | (refine ldE (w.heap.size + 1) en rfl _ rfl rfl H3.rot.right.rot.q.1 ?_)
      | (go_at_call 53;refine (jFq H3 f1 hn v hsv en hen).mono ?_;rw [HLB.out.1,HLB.out.2.1,HLB.out.2.2];rintro e w4 ⟨he,x4,H4,f4,hE4⟩;have he2 : e = .returned (.pointer (some ⟨u.blk,0,none⟩)):=he;subst he2;clear he))
     replace H4:=H4.drew
     obtain ⟨-,-,-,c8,-⟩:=H4.headC
     have c9:=jD8 H4.rot.q.1
     go_region_held (fun w' => w'.cell? ⟨b,3,none⟩ = some (.pointer (some ⟨x4.jb,0,none⟩)) ∧ w'.cell? ⟨w.heap.size,0,none⟩ = some (.string i.key)) (first | exact ⟨d8,d9⟩ | exact ⟨c8,c9⟩) ((go_at_call 193;refine (L.jd.admits H4.judge i.key v hk3 hsv).mono ?_;rintro e w5 ⟨he,hJ,hg⟩;rw [HA.out] at he;subst he;have H5:=H4.step hg;clear hJ hg;obtain ⟨-,-,-,d8,-⟩:=H5.headC;have d9:=jD8 H5.rot.q.1))
     all_goals
      go_wp2_with (go_at_call 88;refine (jTw H5 f4 hn v hsv (by rw [hE4];exact HQ.out)).mono ?_;rintro e w6 ⟨⟨vv,rfl⟩,x6,H6,f6,hE6⟩)
      have N:=jAa (jMm hmu HM1.out H6 f6 (by rw [hE6,hE4,jMj (fun e => HNE.out e.symm)];exact HH1.out) (by rw [← HR1.out];exact HR.out.symm) (by rw [hE6,hE4];exact jRp HQ.out))
      go_roundw
      case rel => exact N.out.1
      case measure => exact N.out.2
set_option maxRecDepth 100000 in
theorem kHf (H : jAb F w0 w ((shP L b sd st x).and R)) (f : Fit n st x) (hn : n ≤ 4398046511104) (i : Iv) (hi : i.ok) (a : Option Addr) (c : Nat) (en : En) (hen : en.ok) (y : Eb) (hh : jBq i.key x.E = some y) :
  Calls Tryz.prog 164 #[.pointer (some ⟨b,0,none⟩),.agg (itC (jAe i a c)),.pointer (some ⟨y.blk,0,none⟩),.agg (enC en)] w (jQe L F w0 b sd n R i (some y) (jAz sd i (some y.ent) en st)):=by
 have mixed : Tryz.prog.follows .mixedOrders = true:=by kernel_rfl
 have hk3:=hi.key
 have hv3:=hi.val
 have hkm : i.key.size ≤ maxLen:=Nat.le_trans hk3 (by decide)
 have HZ:=jAa (fun W => L.it.size (jAe i a c) W (Nat.le_trans hk3 (by decide)) (Nat.le_trans hv3 (by decide)))
 rw [show (50 + ((jAe i a c).key.size : Nat) + ((jAe i a c).vl : Nat) : Int) = jAl i from rfl] at HZ
 have hsz : I64 (jAl i):=by
  unfold jAl
  constructor <;> omega
 have hy:=(jFl hh).1
 have hck:=f.ckOk hn hy
 have hbc : I64 (jAu y.ck.1):=by
  have h1:=jDk y.ck.1
  have h2:=jGr y.ck.1
  constructor <;> omega
 have HBY:=jAa (fun W => L.sl.bytes y.ck.1 hck.1 W)
 have H0:=(((H.box (.cells (itC (jAe i a c)) 75)).box (.cells (enC en) 35)).rin.rot).rin
 rw [World.size_alloc] at H0
 obtain ⟨mu,hmu⟩:=jW9 (jLk L F w0 b sd n R i a c en w.heap.size (some y) (jAz sd i (some y.ent) en st))
 clear H
 go_enter Tryz.func164,Tryz.ntmps164
 go_wp2
 go_step3
 go_wp2_with (first
  | (refine ldI w.heap.size (jAe i a c) rfl _ rfl rfl H0.rot.q.1 ?_)
  | (go_at_call 163;refine (HZ.out _).mono ?_;rintro e w1 ⟨rfl,hg⟩;have H1:=H0.step hg.grown;clear hg;obtain ⟨-,k1,-,-⟩:=jGj (H1.entAt hy))
  | (go_at_call 171;refine (HBY.out _).mono ?_;rintro e w1b ⟨rfl,hg⟩;replace H1:=H1.step hg;clear hg))
 go_step3
 go_wp2
 go_loopw [11] (fun _ wr => ∃ m,jLk L F w0 b sd n R i a c en w.heap.size (some y) (jAz sd i (some y.ent) en st) m wr) (fun _ wr => mu wr)
 case atStart => exact ⟨_,st,x,H1,f,hh,rfl,rfl⟩
 case round =>
  clear H1 H0 f hh hy hck HBY k1
  obtain ⟨st1,x1,H1,f1,hh1,hr1,hm1⟩:=(hmu wr hrel).1
  replace H1:=H1.drew
  clear hrel
  have HM1:=jAa hm1
  have HR1:=jAa hr1
  have HH1:=jAa hh1
  clear hm1 hr1 hh1
  have hlR:=Nat.le_of_lt (f1.lenR hn)
  have hsS:=f1.smallS hn
  obtain ⟨-,c1,c2,-,-⟩:=H1.headC
  have c3:=jD8 H1.rot.q.1
  rcases jH1 f1.good sd i (some y.ent) en with ⟨hf,hr⟩ | ⟨hf,⟨hv,hr⟩ | ⟨v,z,hv,hz,hne,hsv,hc⟩⟩
  ·have HF : Hid (jB3 st1.slab (jAl i) (jAu y.ck.1) = true):=hf
   have HR:=jAa hr
   clear hf hr
   go_upto_region 4 with fail
   go_region_held (fun w' => w'.cell? ⟨b,2,none⟩ = some (.pointer (some ⟨x1.ob,0,none⟩)) ∧ w'.cell? ⟨w.heap.size,0,none⟩ = some (.string i.key)) (first | exact ⟨c5,c6⟩ | exact ⟨c2,c3⟩) ((go_at_call 191;refine (L.ls.victim H1.list hlR i.key hkm).mono ?_;rintro e w2 ⟨he,hL,hg⟩;subst he;have H2:=H1.step hg;clear hL hg;obtain ⟨-,c4,c5,c7,-⟩:=H2.headC;have c6:=jD8 H2.rot.q.1))
   go_wp2_with (go_at_call 192;refine (L.sl.fits H2.slab hsS (jAl i) (jAu y.ck.1) hsz hbc).mono ?_;rintro e w3 ⟨he,hS,hg⟩;rw [HF.out] at he;subst he;have H3:=H2.step hg;clear hS hg)
   try rw [Exit.noGoto_ret]
   go_ret
   exact jL1 HR1.out HR.out H3 f1 HH1.out
  ·have HF : Hid (jB3 st1.slab (jAl i) (jAu y.ck.1) = false):=hf
   have HR:=jAa hr
   have HV:=jAa hv
   clear hf hr hv
   go_upto_region 4 with fail
   go_region_held (fun w' => w'.cell? ⟨b,2,none⟩ = some (.pointer (some ⟨x1.ob,0,none⟩)) ∧ w'.cell? ⟨w.heap.size,0,none⟩ = some (.string i.key)) (first | exact ⟨c5,c6⟩ | exact ⟨c2,c3⟩) ((go_at_call 191;refine (L.ls.victim H1.list hlR i.key hkm).mono ?_;rintro e w2 ⟨he,hL,hg⟩;rw [HV.out] at he;have he2 : e = .returned (.tuple #[.string ⟨#[]⟩,.bool false]):=he;subst he2;clear he;have H2:=H1.step hg;clear hL hg;obtain ⟨-,c4,c5,c7,-⟩:=H2.headC;have c6:=jD8 H2.rot.q.1))
   go_wp2_with (go_at_call 192;refine (L.sl.fits H2.slab hsS (jAl i) (jAu y.ck.1) hsz hbc).mono ?_;rintro e w3 ⟨he,hS,hg⟩;rw [HF.out] at he;subst he;have H3:=H2.step hg;clear hS hg)
   try rw [Exit.noGoto_ret]
   go_ret
   exact jL1 HR1.out HR.out H3 f1 HH1.out
  ·have HF : Hid (jB3 st1.slab (jAl i) (jAu y.ck.1) = false):=hf
   have HV:=jAa hv
   have HNE:=jAa hne
   clear hf hv hne
   cases hlz : jCn z.1 en with
   | false =>
    obtain ⟨q1,q2,q3,q4⟩:=jVl f1 hz hlz
    have HLB:=jAa (show jE6 v en x1.E = none ∧ jAy st1 v en = jBy st1 v ∧ jEm v en x1.E = jFs v x1.E from ⟨q1,q2,q3⟩)
    have HQ:=jAa q4
    have hr : jAz sd i (some y.ent) en st1 = jAz sd i (some y.ent) en (jBy st1 v):=by
     rcases hc with ⟨h1,_⟩ | ⟨_,h2⟩
     ·rw [hlz] at h1
      cases h1
     ·exact h2
    have HR:=jAa hr
    clear q1 q2 q3 q4 hr hc hlz
    go_upto_region 4 with fail
    go_region_held (fun w' => w'.cell? ⟨b,2,none⟩ = some (.pointer (some ⟨x1.ob,0,none⟩)) ∧ w'.cell? ⟨w.heap.size,0,none⟩ = some (.string i.key)) (first | exact ⟨c5,c6⟩ | exact ⟨c2,c3⟩) ((go_at_call 191;refine (L.ls.victim H1.list hlR i.key hkm).mono ?_;rintro e w2 ⟨he,hL,hg⟩;rw [HV.out] at he;have he2 : e = .returned (.tuple #[.string v,.bool true]):=he;subst he2;clear he;have H2:=H1.step hg;clear hL hg;obtain ⟨-,c4,c5,c7,-⟩:=H2.headC;have c6:=jD8 H2.rot.q.1))
    go_wp2_with (first
     | (go_at_call 192;refine (L.sl.fits H2.slab hsS (jAl i) (jAu y.ck.1) hsz hbc).mono ?_;rintro e w3 ⟨he,hS,hg⟩;rw [HF.out] at he;subst he;have H3:=H2.step hg;clear hS hg)
     | (refine ldE (w.heap.size + 1) en rfl _ rfl rfl H3.rot.right.rot.q.1 ?_)
     | (go_at_call 53;refine (jFq H3 f1 hn v hsv en hen).mono ?_;rw [HLB.out.1,HLB.out.2.1,HLB.out.2.2];rintro e w4 ⟨he,x4,H4,f4,hE4⟩;have he2 : e = .returned (.pointer none):=he;subst he2;clear he))
    have N:=jAa (jMm hmu HM1.out H4 f4 (by rw [hE4,jMj (fun e => HNE.out e.symm)];exact HH1.out) (by rw [← HR1.out];exact HR.out.symm) (by rw [hE4];exact HQ.out))
    go_roundw
    case rel => exact N.out.1
    case measure => exact N.out.2
   | true =>
    obtain ⟨u,q1,q2,q3,q4⟩:=jU0 f1 hz hlz
    have HLB:=jAa (show jE6 v en x1.E = some u ∧ jAy st1 v en = st1 ∧ jEm v en x1.E = x1.E from ⟨q1,q2,q3⟩)
    have HQ:=jAa q4
    clear q1 q2 q3 q4
    have hr : jAz sd i (some y.ent) en st1 = jAz sd i (some y.ent) en (jBy st1 v):=by
     rcases hc with ⟨_,h1,_⟩ | ⟨_,h2⟩
     ·cases h1
     ·exact h2
    have HR:=jAa hr
    clear hr hc hlz
    go_upto_region 4 with fail
    go_region_held (fun w' => w'.cell? ⟨b,2,none⟩ = some (.pointer (some ⟨x1.ob,0,none⟩)) ∧ w'.cell? ⟨w.heap.size,0,none⟩ = some (.string i.key)) (first | exact ⟨c5,c6⟩ | exact ⟨c2,c3⟩) ((go_at_call 191;refine (L.ls.victim H1.list hlR i.key hkm).mono ?_;rintro e w2 ⟨he,hL,hg⟩;rw [HV.out] at he;have he2 : e = .returned (.tuple #[.string v,.bool true]):=he;subst he2;clear he;have H2:=H1.step hg;clear hL hg;obtain ⟨-,c4,c5,c7,-⟩:=H2.headC;have c6:=jD8 H2.rot.q.1))
    go_upto_region 10 with (first
     | (go_at_call 192;refine (L.sl.fits H2.slab hsS (jAl i) (jAu y.ck.1) hsz hbc).mono ?_;rintro e w3 ⟨he,hS,hg⟩;rw [HF.out] at he;subst he;have H3:=H2.step hg;clear hS hg)
     | (refine ldE (w.heap.size + 1) en rfl _ rfl rfl H3.rot.right.rot.q.1 ?_)
     | (go_at_call 53;refine (jFq H3 f1 hn v hsv en hen).mono ?_;rw [HLB.out.1,HLB.out.2.1,HLB.out.2.2];rintro e w4 ⟨he,x4,H4,f4,hE4⟩;have he2 : e = .returned (.pointer (some ⟨u.blk,0,none⟩)):=he;subst he2;clear he))
    go_quiet (fail)
    have H5:=H4.drewN nq
    go_wp2_with (go_at_call 88;refine (jTw H5 f4 hn v hsv (by rw [hE4];exact HQ.out)).mono ?_;rintro e w6 ⟨⟨vv,rfl⟩,x6,H6,f6,hE6⟩)
    have N:=jAa (jMm hmu HM1.out H6 f6 (by rw [hE6,hE4,jMj (fun e => HNE.out e.symm)];exact HH1.out) (by rw [← HR1.out];exact HR.out.symm) (by rw [hE6,hE4];exact jRp HQ.out))
    go_roundw
    case rel => exact N.out.1
    case measure => exact N.out.2
end
end Go.Proofs.YtkfeafmpaodagaaGreatDoor
