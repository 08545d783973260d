/- The contracts of package item are kept. Conditions: those of the contracts. -/
import Derived.Test.YtkfeafmpaodagaaGreatDoorG20Joined
import Derived.Shelf.SlSortCmp.QuietGrown
namespace Go.Proofs.YtkfeafmpaodagaaGreatDoor
set_option maxHeartbeats 16000000
open Go.RowKit Go.Sort
theorem jWu (i : It) (w : World) (hk : i.key.size ≤ 140737488355328) (hl : i.vl ≤ 140737488355328) : Calls Tryz.prog 163 #[.agg (itC i)] w fun e w' => e = .returned (.int .i64 (50 + (i.key.size : Nat) + (i.vl : Nat))) ∧ Gd w w':=by
 obtain ⟨key,va,vl,vc,fl,exp,cas,sec,seq,st,won,seen⟩:=i
 have hg:=Gd.alloc w (.cells (itC ⟨key,va,vl,vc,fl,exp,cas,sec,seq,st,won,seen⟩) 75)
 unfold itC at *
 dsimp only at *
 have e1 : wrap64 (50 + (key.size : Int)) = 50 + (key.size : Int):=jHt (by omega)
 have e2 : wrap64 (50 + (key.size : Int) + (vl : Int)) = 50 + (key.size : Int) + (vl : Int):=jHt (by omega)
 go_enter Tryz.func163,Tryz.ntmps163
 go_wp2
 go_ret
 exact ⟨rfl,hg⟩
theorem jM2 (exp now : Int) (w : World) : Calls Tryz.prog 96 #[.int .i64 exp,.int .i64 now] w fun e w' => e = .returned (.int .i64 (atW exp now)) ∧ w' = w:=by
 by_cases h1 : now < 1
 ·have hm : max now 1 = 1:=by omega
  by_cases h2 : exp = 0
  ·subst h2
   go_enter Tryz.func96,Tryz.ntmps96
   go_wp2
   go_ret
   exact ⟨rfl,rfl⟩
  ·have hb : (exp == 0) = false:=beq_eq_false_iff_ne.2 h2
   by_cases h3 : exp < 0
   ·have HA : Hid (atW exp now = 1):=by show _ = _;unfold atW;rw [if_neg h2,if_pos h3,hm]
    go_enter Tryz.func96,Tryz.ntmps96
    go_wp2
    go_ret
    exact ⟨by rw [HA.out];rfl,rfl⟩
   ·by_cases h4 : exp ≤ 2592000
    ·have HA : Hid (atW exp now = 1 + exp):=by show _ = _;unfold atW;rw [if_neg h2,if_neg h3,if_pos h4,hm];unfold wrap64;omega
     go_enter Tryz.func96,Tryz.ntmps96
     go_wp2
     go_ret
     exact ⟨by rw [HA.out];rfl,rfl⟩
    ·have HA : Hid (atW exp now = exp):=by show _ = _;unfold atW;rw [if_neg h2,if_neg h3,if_neg h4]
     go_enter Tryz.func96,Tryz.ntmps96
     go_wp2
     go_ret
     exact ⟨by rw [HA.out];rfl,rfl⟩
 ·have hm : max now 1 = now:=by omega
  by_cases h2 : exp = 0
  ·subst h2
   go_enter Tryz.func96,Tryz.ntmps96
   go_wp2
   go_ret
   exact ⟨rfl,rfl⟩
  ·have hb : (exp == 0) = false:=beq_eq_false_iff_ne.2 h2
   by_cases h3 : exp < 0
   ·have HA : Hid (atW exp now = now):=by show _ = _;unfold atW;rw [if_neg h2,if_pos h3,hm]
    go_enter Tryz.func96,Tryz.ntmps96
    go_wp2
    go_ret
    exact ⟨by rw [HA.out];rfl,rfl⟩
   ·by_cases h4 : exp ≤ 2592000
    ·have HA : Hid (atW exp now = wrap64 (now + exp)):=by show _ = _;unfold atW;rw [if_neg h2,if_neg h3,if_pos h4,hm]
     go_enter Tryz.func96,Tryz.ntmps96
     go_wp2
     go_ret
     exact ⟨by rw [HA.out];rfl,rfl⟩
    ·have HA : Hid (atW exp now = exp):=by show _ = _;unfold atW;rw [if_neg h2,if_neg h3,if_neg h4]
     go_enter Tryz.func96,Tryz.ntmps96
     go_wp2
     go_ret
     exact ⟨by rw [HA.out];rfl,rfl⟩
theorem atW_eq {exp now : Int} (he : T40 exp) (hn : N41 now) : atW exp now = atN exp now:=by
 unfold T40 at he
 unfold N41 at hn
 unfold atW atN
 repeat' split
 all_goals first | rfl | exact jHt (by omega)
theorem kAh (exp now : Int) (he : T40 exp) (hn : N41 now) (w : World) : Calls Tryz.prog 96 #[.int .i64 exp,.int .i64 now] w fun e w' => e = .returned (.int .i64 (atN exp now)) ∧ w' = w:=by
 rw [← atW_eq he hn]
 exact jM2 exp now w
theorem jQq (i : It) (now : Int) (w : World) : Calls Tryz.prog 99 #[.agg (itC i),.int .i64 now] w fun e w' => e = .returned (.int .i64 (jCv i.exp now)) ∧ Gd w w':=by
 obtain ⟨key,va,vl,vc,fl,exp,cas,sec,seq,st,won,seen⟩:=i
 have hg:=Gd.alloc w (.cells (itC ⟨key,va,vl,vc,fl,exp,cas,sec,seq,st,won,seen⟩) 75)
 unfold itC at *
 dsimp only at *
 by_cases h1 : exp = 0
 ·subst h1
  go_enter Tryz.func99,Tryz.ntmps99
  go_wp2
  go_ret
  exact ⟨rfl,hg⟩
 ·have hb : (exp == 0) = false:=beq_eq_false_iff_ne.2 h1
  by_cases h2 : exp ≤ now
  ·have HA : Hid (jCv exp now = 0):=by show _ = _;unfold jCv;rw [if_neg h1,if_pos h2]
   go_enter Tryz.func99,Tryz.ntmps99
   go_wp2
   go_ret
   exact ⟨by rw [HA.out];rfl,hg⟩
  ·have HA : Hid (jCv exp now = wrap64 (exp - now)):=by show _ = _;unfold jCv;rw [if_neg h1,if_neg h2]
   go_enter Tryz.func99,Tryz.ntmps99
   go_wp2
   go_ret
   exact ⟨by rw [HA.out];rfl,hg⟩
theorem kBz {w w' : World} {k i : Nat} {v : Value} (hg : Gd w w') (h : w.cell? ⟨k,i,none⟩ = some v) : w'.cell? ⟨k,i,none⟩ = some v:=by
 by_cases hk : k < w.heap.size
 ·have e:=hg.grown.block k hk (by simp)
  unfold World.cell? at h ⊢
  rw [e]
  exact h
 ·unfold World.cell? at h
  rw [Array.getElem?_eq_none (Nat.le_of_not_lt hk)] at h
  cases h
def jKi (s now : Int) : Bool:=decide (s ≠ 0 ∧ s ≤ now)
theorem kAo (s now : Int) (w : World) : Calls Tryz.prog 123 #[.int .i64 s,.int .i64 now] w fun e w' => e = .returned (.bool (jKi s now)) ∧ w' = w:=by
 by_cases h1 : s = 0
 ·subst h1
  have HA : Hid (jKi 0 now = false):=decide_eq_false (by omega)
  go_enter Tryz.func123,Tryz.ntmps123
  go_wp2
  go_ret
  exact ⟨by rw [HA.out];rfl,rfl⟩
 ·have hb : (s != 0) = true:=by simp [h1]
  have HA : Hid (jKi s now = decide (s ≤ now)):=by show _ = _;unfold jKi;exact decide_eq_decide.2 (by omega)
  go_enter Tryz.func123,Tryz.ntmps123
  go_wp2
  go_ret
  exact ⟨by rw [HA.out];rfl,rfl⟩
theorem jZo (s q : Int) (w : World) : Calls Tryz.prog 124 #[.int .i64 s,.int .u64 q] w fun e w' => e = .returned (.func (.func 158) #[] #[.pointer (some ⟨w.heap.size,0,none⟩),.pointer (some ⟨w.heap.size + 1,0,none⟩)]) ∧ w' = (w.alloc (.cells #[.int .i64 s] 3)).alloc (.cells #[.int .u64 q] 22):=by
 go_enter Tryz.func124,Tryz.ntmps124
 go_wp2
 go_ret
 exact ⟨rfl,rfl⟩
def jOq (sec seq s q : Int) : Bool:=decide (jHw sec seq s q)
theorem kAu (sec seq s q : Int) : (sec < s ∧ jHw sec seq s q) ∨ (¬ sec < s ∧ sec ≠ s ∧ ¬ jHw sec seq s q) ∨ (¬ sec < s ∧ sec = s ∧ (jHw sec seq s q ↔ seq < q)):=by
 unfold jHw
 omega
theorem kEs (i : It) (s q : Int) (a b : Nat) (w : World) (ha : w.cell? ⟨a,0,none⟩ = some (.int .i64 s)) (hb : w.cell? ⟨b,0,none⟩ = some (.int .u64 q)) : Calls Tryz.prog 158 #[.agg (itC i),.pointer (some ⟨a,0,none⟩),.pointer (some ⟨b,0,none⟩)] w fun e w' => e = .returned (.bool (jOq i.sec i.seq s q)) ∧ Gd w w':=by
 obtain ⟨key,va,vl,vc,fl,exp,cas,sec,seq,st,won,seen⟩:=i
 have hg:=Gd.alloc w (.cells (itC ⟨key,va,vl,vc,fl,exp,cas,sec,seq,st,won,seen⟩) 75)
 have ha2:=kBz hg ha
 have hb2:=kBz hg hb
 have hc:=kAu sec seq s q
 unfold itC at *
 dsimp only at *
 rcases hc with ⟨h1,h2⟩ | ⟨h1,h2,h3⟩ | ⟨h1,rfl,h3⟩
 ·have HA : Hid (jOq sec seq s q = true):=decide_eq_true h2
  clear h2
  go_enter Tryz.func158,Tryz.ntmps158
  go_wp2
  go_ret
  exact ⟨by rw [HA.out];rfl,hg⟩
 ·have HA : Hid (jOq sec seq s q = false):=decide_eq_false h3
  have hb : (sec == s) = false:=beq_eq_false_iff_ne.2 h2
  clear h2 h3
  go_enter Tryz.func158,Tryz.ntmps158
  go_wp2
  go_ret
  exact ⟨by rw [HA.out];rfl,hg⟩
 ·have HA : Hid (jOq sec seq sec q = decide (seq < q)):=decide_eq_decide.2 h3
  clear h3
  go_enter Tryz.func158,Tryz.ntmps158
  go_wp2
  go_ret
  exact ⟨by rw [HA.out];rfl,hg⟩
theorem kLy (w : World) (a b : Obj) : ((w.alloc a).alloc b).heap[w.heap.size + 1]? = some b:=by
 have h:=heap_alloc_new (w.alloc a) b
 rw [World.size_alloc] at h
 exact h
theorem kNt (exp sec seq : Int) (e : En) : (jKi exp e.now = true ∧ jDd exp sec seq e = false) ∨ (jKi exp e.now = false ∧ jKi e.flush e.now = false ∧ jDd exp sec seq e = true) ∨ (jKi exp e.now = false ∧ jKi e.flush e.now = true ∧ jDd exp sec seq e = !jOq sec seq e.flush e.fseq):=by
 unfold jKi jDd
 by_cases h1 : exp ≠ 0 ∧ exp ≤ e.now
 ·exact .inl ⟨decide_eq_true h1,by rw [if_pos h1]⟩
 ·rw [if_neg h1]
  by_cases h2 : e.flush = 0 ∨ e.now < e.flush
  ·exact .inr (.inl ⟨decide_eq_false h1,decide_eq_false (by omega),by rw [if_pos h2]⟩)
  ·exact .inr (.inr ⟨decide_eq_false h1,decide_eq_true (by omega),by rw [if_neg h2];rfl⟩)
theorem jUf (W : World) (u v : Value) (t t' : TypeId) : ((W.alloc (.cells #[u] t)).alloc (.cells #[v] t')).cell? ⟨W.heap.size,0,none⟩ = some u ∧ ((W.alloc (.cells #[u] t)).alloc (.cells #[v] t')).cell? ⟨W.heap.size + 1,0,none⟩ = some v:=by
 have h1:=heap_alloc_new W (.cells #[u] t)
 have h2:=jFu (World.grownBy_alloc _ (.cells #[v] t') none) h1
 have h3:=heap_alloc_new (W.alloc (.cells #[u] t)) (.cells #[v] t')
 rw [World.size_alloc] at h3
 exact ⟨by unfold World.cell?;rw [h2];rfl,by unfold World.cell?;rw [h3];rfl⟩
set_option maxRecDepth 100000 in
theorem jY5 (i : It) (e : En) (w : World) : Calls Tryz.prog 87 #[.agg (itC i),.agg (enC e)] w fun x w' => x = .returned (.bool (jDd i.exp i.sec i.seq e)) ∧ Gd w w':=by
 have hc:=kNt i.exp i.sec i.seq e
 obtain ⟨key,va,vl,vc,fl,exp,cas,sec,seq,st,won,seen⟩:=i
 obtain ⟨now,eseq,flush,fseq⟩:=e
 have hg:=(Gd.alloc w (.cells (itC ⟨key,va,vl,vc,fl,exp,cas,sec,seq,st,won,seen⟩) 75)).trans (Gd.alloc _ (.cells (enC ⟨now,eseq,flush,fseq⟩) 35))
 have HC:=jAa (fun s n W => kAo s n W)
 have HM:=jAa (fun s n W => jZo s n W)
 have HE:=jAa (fun s q a b W ha hb => kEs ⟨key,va,vl,vc,fl,exp,cas,sec,seq,st,won,seen⟩ s q a b W ha hb)
 have HI : Hid (∀ w1,Gd ((w.alloc (.cells (itC ⟨key,va,vl,vc,fl,exp,cas,sec,seq,st,won,seen⟩) 75)).alloc (.cells (enC ⟨now,eseq,flush,fseq⟩) 35)) w1 → _ ∧ _):=fun w1 h => ⟨jAk (i:=⟨key,va,vl,vc,fl,exp,cas,sec,seq,st,won,seen⟩) (jFu h.grown (jFu (World.grownBy_alloc _ _ none) (heap_alloc_new w _))),jBx (e:=⟨now,eseq,flush,fseq⟩) (jFu h.grown (kLy w _ _))⟩
 unfold itC enC at *
 dsimp only at *
 generalize hr : jDd exp sec seq ⟨now,eseq,flush,fseq⟩ = r at *
 clear hr
 have HM2 : Hid (∀ (s n : Int) (W : World),Calls Tryz.prog 124 #[.int .i64 s,.int .u64 n] W fun e w' => ∃ a b,e = .returned (.func (.func 158) #[] #[.pointer (some ⟨a,0,none⟩),.pointer (some ⟨b,0,none⟩)]) ∧ Gd W w' ∧ w'.cell? ⟨a,0,none⟩ = some (.int .i64 s) ∧ w'.cell? ⟨b,0,none⟩ = some (.int .u64 n)):=fun s n W => (HM.out s n W).mono fun e w' ⟨h,k⟩ => ⟨_,_,h,by rw [k];exact (Gd.alloc _ _).trans (Gd.alloc _ _),by rw [k];exact (jUf _ _ _ _ _).1,by rw [k];exact (jUf _ _ _ _ _).2⟩
 rcases hc with ⟨h1,rfl⟩ | ⟨h1,h2,rfl⟩ | ⟨h1,h2,rfl⟩
 ·go_enter Tryz.func87,Tryz.ntmps87
  go_wp2_with (go_at_call 123;refine (HC.out _ _ _).mono ?_;rw [h1];rintro e w' ⟨rfl,rfl⟩)
  go_ret
  exact ⟨rfl,hg⟩
 ·go_enter Tryz.func87,Tryz.ntmps87
  go_wp2_with (first | (go_at_call 123;refine (HC.out _ _ _).mono ?_;(first | rw [h1] | rw [h2]);rintro e w' ⟨rfl,rfl⟩) | (go_at_call 124;refine (HM.out _ _ _).mono ?_;rintro e w' ⟨rfl,rfl⟩))
  go_ret
  exact ⟨rfl,((hg.trans (Gd.alloc _ _)).trans (Gd.alloc _ _))⟩
 ·go_enter Tryz.func87,Tryz.ntmps87
  go_wp2_with (first | (go_at_call 123;refine (HC.out _ _ _).mono ?_;(first | rw [h1] | rw [h2]);rintro e w' ⟨rfl,rfl⟩) | (go_at_call 124;refine (HM2.out _ _ _).mono ?_;rintro e w1 ⟨a,b,rfl,hg1,c1,c2⟩;obtain ⟨⟨i0,i1,i2,i3,i4,i5,i6,i7,i8,i9⟩,n0,n1,n2,n3⟩:=HI.out w1 hg1) | (go_at_call 158;refine (HE.out flush fseq _ _ _ c1 c2).mono ?_;rintro e w2 ⟨rfl,hg2⟩))
  go_ret
  exact ⟨rfl,(hg.trans hg1).trans hg2⟩
theorem kLi : kA1 where
 size:=fun i w hk hl => jWu i w hk hl
 atw:=fun exp now w => (jM2 exp now w).mono fun _ _ ⟨h,k⟩ => ⟨h,by rw [k];exact Gd.refl w⟩
 at_:=fun exp now he hn w => (kAh exp now he hn w).mono fun _ _ ⟨h,k⟩ => ⟨h,by rw [k];exact Gd.refl w⟩
 ttl:=fun i now _ _ w => jQq i now w
 live:=fun i e _ _ w => jY5 i e w
end Go.Proofs.YtkfeafmpaodagaaGreatDoor
