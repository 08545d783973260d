/- Package shard keeps its contracts, wherever the packages beneath it do. Conditions: the contracts of the packages beneath it; at most 900 stores. Package shard keeps its contracts: those of the packages beneath it are kept too. Conditions: none. -/
import Derived.Test.YtkfeafmpaodagaaGreatDoorG24Joined
import Derived.Test.YtkfeafmpaodagaaGreatDoorG25Joined
import Derived.Test.YtkfeafmpaodagaaGreatDoorG13Joined
import Derived.Test.YtkfeafmpaodagaaGreatDoorG15Joined
import Derived.Test.YtkfeafmpaodagaaGreatDoorG09Joined
import Derived.Test.YtkfeafmpaodagaaGreatDoorTableFin
import Derived.Test.YtkfeafmpaodagaaGreatDoorItemLibF
namespace Go.Proofs.YtkfeafmpaodagaaGreatDoor
set_option maxHeartbeats 16000000
section
open Go.RowKit Go.Shelf
variable {Sl : World → Nat → (Nat → Prop) → Sb → Prop} {Ls : World → Nat → (Nat → Prop) → Sr → Prop} {Jd : World → Nat → List Nat → Nat → Js → Prop} {Tb : World → Nat → (Nat → Prop) → Ts → Prop}
section
variable {L : jEk Sl Ls Jd Tb} {w : World} {b sd n : Nat} {st : Hs} {x : Sx} {own : Nat → Prop}
theorem sh_lt (h : Sh0 L w b own sd n st) : ∀ k,own k → k < w.heap.size:=by
 obtain ⟨x,rfl,h2,h3,h4⟩:=h
 exact h3
theorem jL7 {w0 w' : World} {st' : Hs} {E : List Eb} (h : jH9 L own w0 w' b sd n jAd.emp st' E) : ∃ own',Sh0 L w' b own' sd n st' ∧ Gr own w0 w' ∧ jBm w0 own own':=by
 obtain ⟨x',H',f',-⟩:=h
 exact ⟨_,Sh0.of H' f'⟩
theorem jRq {w' : World} (h : Sh0 L w b own sd n st) (hg : w.grownBy w' none) : Sh0 L w' b own sd n st:=h.keep fun k hk => hg.block k (sh_lt h k hk) (by simp)
theorem kNh (h : Sh0 L w b own sd n st) (hn : n ≤ 4398046511104) (s : ByteArray) (en : En) (hs : s.size ≤ 140737488351232) (hen : en.ok) : Calls Tryz.prog 29 #[.pointer (some ⟨b,0,none⟩),.string s,.agg (enC en)] w (kBg (Sh0 L) w b own sd n st s en):=by
 obtain ⟨x,H,f⟩:=h.law
 have hlv:=(jSj f s en).2
 refine (kNz H f hn s hs en hen).mono ?_
 rintro e w' (⟨h1,rfl,h2⟩ | ⟨y,a,c,x',h1,rfl,H',f'⟩)
 ·obtain ⟨own',g1,g2,g3⟩:=jL7 h2
  rw [h1] at hlv
  exact ⟨own',g1,g2,g3,.inl ⟨hlv.symm,rfl⟩⟩
 ·obtain ⟨g1,g2,g3⟩:=Sh0.of H' f'
  rw [h1] at hlv
  exact ⟨_,g1,g2,g3,.inr ⟨y.ent,a,c,hlv.symm,rfl,H'.q.2.1.1,fun k hk h' => H'.q.2.2 k h' (.inl hk)⟩⟩
theorem kKq (h : Sh0 L w b own sd n st) : Calls Tryz.prog 18 #[.pointer (some ⟨b,0,none⟩)] w fun e w' => ∃ v own',e = .returned v ∧ w'.ownsRow 0 9 1 v st.drops.length (jB6 st.drops) ∧ Sh0 L w' b own' sd n (jGb st) ∧ (∀ k,v.ownBlock = some k → own k ∧ ¬ own' k) ∧ (∀ k,own' k → own k) ∧ Gr own w w':=by
 obtain ⟨x,h1,h2,h3,f⟩:=h
 have H : jAb own w w ((shP L b sd st x).and jAd.emp):=by
  subst h1
  exact ⟨Gr.refl _ _,⟨h2,trivial,fun _ _ h => h.elim⟩,fun k hk => hk.elim (fun hk => ⟨h3 k hk,.inl hk⟩) fun h => h.elim⟩
 refine (kJq H f).mono ?_
 rintro e w' ⟨rfl,H',f'⟩
 obtain ⟨g1,g2,-⟩:=Sh0.of H' f'
 refine ⟨x.vd,_,rfl,H'.q.2.1.1,g1,fun k hk => ⟨?_,fun h' => H'.q.2.2 k h' (.inl hk)⟩,fun k hk => ?_,g2⟩
 ·rw [h1]
  exact jEr.2 ⟨jIm x.vd st.drops,by simp,hk⟩
 ·rw [h1]
  obtain ⟨A,hA,hk⟩:=jEr.1 hk
  simp only [List.mem_cons,List.not_mem_nil,or_false] at hA
  rcases hA with rfl | rfl | rfl | rfl | rfl | rfl | rfl | rfl
  ·exact jEr.2 ⟨jJi b x,by simp,hk⟩
  ·exact jEr.2 ⟨_,by simp,hk⟩
  ·exact jEr.2 ⟨_,by simp [jGb],hk⟩
  ·exact jEr.2 ⟨_,by simp [jGb],hk⟩
  ·exact jEr.2 ⟨_,by simp [jGb],hk⟩
  ·cases hk
  ·exact jEr.2 ⟨jGv x.E,by simp,hk⟩
  ·exact jEr.2 ⟨jEw x.E,by simp,hk⟩
theorem sh_all (h : Sh0 L w b own sd n st) (hn : n ≤ 4398046511104) : Calls Tryz.prog 45 #[.pointer (some ⟨b,0,none⟩)] w fun e w' => ∃ g lb own2,e = .returned (.func (.func g) #[] lb) ∧ Sh0 L w' b own sd n st ∧ w.grownBy w' none ∧ (∀ k,own k → own2 k) ∧ (∀ k,own2 k → own k ∨ (w.heap.size ≤ k ∧ k < w'.heap.size)) ∧
  (∀ args v,(callFunc g args).run Tryz.prog v = .ok (.enter g args) v) ∧ ∀ m,5 ≤ m → jHd Fence.wide m Tryz.prog g lb jSe jIs own2 (fun xs => xs.map jFf.iv = st.ents.map Prod.fst) (fun pre => pre.map jFf.iv <+: st.ents.map Prod.fst) w':=by
 have hx:=h
 obtain ⟨x,h1,h2,h3,f⟩:=h
 have H : jAb own w w ((shP L b sd st x).and jAd.emp):=by
  subst h1
  exact ⟨Gr.refl _ _,⟨h2,trivial,fun _ _ h => h.elim⟩,fun k hk => hk.elim (fun hk => ⟨h3 k hk,.inl hk⟩) fun h => h.elim⟩
 have hE : x.E.length ≤ 901:=by
  have h1:=f.good.nine.1
  have h2 : st.ents.length = x.E.length:=by rw [f.ents,List.length_map]
  omega
 have hok : ∀ y ∈ x.E,y.iv.val.length ≤ 3000:=fun y hy => f.valOk hy
 have hev : st.ents.map Prod.fst = x.E.map Eb.iv:=by rw [f.ents,List.map_map];rfl
 refine (all_in H f hn).mono ?_
 rintro e w' ⟨B,v,rfl,HZ⟩
 have hg : w.grownBy w' none:=⟨HZ.below.os,HZ.below.tape,HZ.below.output,HZ.below.size,fun k hk _ => HZ.below.block k hk⟩
 have hvs : (jEw x.E).q w':=(jEw x.E).on w w' (fun y hy => H.valAt hy) fun k hk => hg.block k (h3 k (by rw [h1];exact jEr.2 ⟨jEw x.E,by simp,hk⟩)) (by simp)
 refine ⟨_,_,fun k => own k ∨ jNg B v x.E k,rfl,jRq hx hg,hg,fun k hk => .inl hk,fun k hk => ?_,enters_of Tryz.func83 (by kernel_rfl) rfl,fun m hm => ?_⟩
 ·rcases hk with hk | rfl | hk | hk
  ·exact .inl hk
  ·exact .inr (HZ.lt k (.inr (.inl rfl)))
  ·exact .inr (HZ.lt k (.inl hk))
  ·exact .inl (by rw [h1];exact jEr.2 ⟨jEw x.E,by simp,hk⟩)
 ·rw [hev]
  have hr : w'.ownsRow w.heap.size 75 10 v x.E.length (jIw ((x.E.take x.E.length).map Eb.it)):=HZ.q.1
  rw [List.take_length] at hr
  exact (kCp m (by omega) hE HZ.q.2.1.1 hr hvs hok).wide fun k hk => .inr hk
end
theorem kGy (L : jEk Sl Ls Jd Tb) : jA7 (Sh0 L) where
 lt:=sh_lt
 good:=fun ⟨_,_,_,_,f⟩ => f.good
 keep:=Sh0.keep
 mono:=fun ⟨x,h1,h2,h3,f⟩ hm hl => ⟨x,h1,h2,h3,⟨f.small,f.tab,f.ents,f.blks,jH8 f.good hm hl⟩⟩
 new:=fun sd bud most h1 h2 h3 w => kEi sd bud most h1 h2 h3 w
 look:=fun h hn s en hs hen => kNh h hn s en hs hen
 use:=fun h hn s hs => by
  obtain ⟨x,H,f⟩:=h.law
  exact (use_in H f hn s hs).mono fun e w' ⟨h1,h2⟩ => ⟨h1,jL7 h2⟩
 store:=fun h hn hl i a c en hi hrd hen => by
  obtain ⟨x,H,f⟩:=h.law
  exact (kJ9 H f hn hl i hi a c hrd en hen).mono fun e w' ⟨h1,E,h2⟩ => ⟨h1,jL7 h2⟩
 update:=fun h hn i a c hi hrd => by
  obtain ⟨x,H,f⟩:=h.law
  exact (kId H f hn i hi a c hrd).mono fun e w' ⟨h1,E,h2⟩ => ⟨h1,jL7 h2⟩
 remove:=fun h hn s hs => by
  obtain ⟨x,H,f⟩:=h.law
  exact (jVh H f hn s hs).mono fun e w' ⟨h1,h2⟩ => ⟨h1,jL7 h2⟩
 drops:=kKq
 all:=sh_all
 used:=fun h hn => by
  obtain ⟨x,H,f⟩:=h.law
  exact (kNd H f hn).mono fun e w' ⟨h1,h2⟩ => ⟨h1,jRq h h2,h2⟩
 len:=fun h hn => by
  obtain ⟨x,H,f⟩:=h.law
  exact (kEp H f hn).mono fun e w' ⟨h1,h2⟩ => ⟨h1,jRq h h2,h2⟩
end
section
theorem libs0 : jEk Sl0 Ls0 (Jd0 jF8 Sk0) Tb0:=⟨kMo,kJg,kLp,kGw,kLi⟩
theorem kCa : jA7 (Sh0 libs0):=kGy libs0
end
end Go.Proofs.YtkfeafmpaodagaaGreatDoor
