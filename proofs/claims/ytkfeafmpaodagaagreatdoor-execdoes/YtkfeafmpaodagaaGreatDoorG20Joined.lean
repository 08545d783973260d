/- What the document's own layer 10 answers. Conditions: times up to 2 to the 40th, seconds up to 2 to the 41st, where times are added. What the document's own layer 10 answers: whether an item lives, and what a flush is. Conditions: times up to 2 to the 40th, seconds up to 2 to the 41st, of a flush. -/
import Derived.Test.YtkfeafmpaodagaaGreatDoorG11Joined
import Derived.Laws.ResultCell
namespace Go.Proofs.YtkfeafmpaodagaaGreatDoor
set_option maxHeartbeats 16000000
section
open Go.RowKit Go.Sort
theorem jHt {a : Int} (h : -9223372036854775808 ≤ a ∧ a < 9223372036854775808) : wrap64 a = a:=by unfold wrap64;omega
theorem kIm (exp now : Int) (he : T40 exp) (hn : N41 now) (w : World) : Calls Tryz.prog 40 #[.int .i64 exp,.int .i64 now] w fun e w' => e = .returned (.int .i64 (atN exp now)) ∧ w' = w:=by
 unfold T40 at he
 unfold N41 at hn
 by_cases h1 : now < 1
 ·have hm : max now 1 = 1:=by omega
  by_cases h2 : exp = 0
  ·subst h2
   go_enter Tryz.func40,Tryz.ntmps40
   go_wp2
   go_ret
   exact ⟨rfl,rfl⟩
  ·have hb : (exp == 0) = false:=beq_eq_false_iff_ne.2 h2
   by_cases h3 : exp < 0
   ·have HA : Hid (atN exp now = 1):=by show _ = _;unfold atN;rw [if_neg h2,if_pos h3,hm]
    go_enter Tryz.func40,Tryz.ntmps40
    go_wp2
    go_ret
    exact ⟨by rw [HA.out];rfl,rfl⟩
   ·by_cases h4 : exp ≤ 2592000
    ·have HA : Hid (atN exp now = 1 + exp):=by show _ = _;unfold atN;rw [if_neg h2,if_neg h3,if_pos h4,hm]
     have e1 : wrap64 (1 + exp) = 1 + exp:=jHt (by omega)
     go_enter Tryz.func40,Tryz.ntmps40
     go_wp2
     go_ret
     exact ⟨by rw [HA.out];rfl,rfl⟩
    ·have HA : Hid (atN exp now = exp):=by show _ = _;unfold atN;rw [if_neg h2,if_neg h3,if_neg h4]
     go_enter Tryz.func40,Tryz.ntmps40
     go_wp2
     go_ret
     exact ⟨by rw [HA.out];rfl,rfl⟩
 ·have hm : max now 1 = now:=by omega
  by_cases h2 : exp = 0
  ·subst h2
   go_enter Tryz.func40,Tryz.ntmps40
   go_wp2
   go_ret
   exact ⟨rfl,rfl⟩
  ·have hb : (exp == 0) = false:=beq_eq_false_iff_ne.2 h2
   by_cases h3 : exp < 0
   ·have HA : Hid (atN exp now = now):=by show _ = _;unfold atN;rw [if_neg h2,if_pos h3,hm]
    go_enter Tryz.func40,Tryz.ntmps40
    go_wp2
    go_ret
    exact ⟨by rw [HA.out];rfl,rfl⟩
   ·by_cases h4 : exp ≤ 2592000
    ·have HA : Hid (atN exp now = now + exp):=by show _ = _;unfold atN;rw [if_neg h2,if_neg h3,if_pos h4,hm]
     have e1 : wrap64 (now + exp) = now + exp:=jHt (by omega)
     go_enter Tryz.func40,Tryz.ntmps40
     go_wp2
     go_ret
     exact ⟨by rw [HA.out];rfl,rfl⟩
    ·have HA : Hid (atN exp now = exp):=by show _ = _;unfold atN;rw [if_neg h2,if_neg h3,if_neg h4]
     go_enter Tryz.func40,Tryz.ntmps40
     go_wp2
     go_ret
     exact ⟨by rw [HA.out];rfl,rfl⟩
theorem kCo (i : It) (now : Int) (w : World) : Calls Tryz.prog 107 #[.agg (itC i),.int .i64 now] w fun e w' => e = .returned (.int .i64 (jCv i.exp now)) ∧ Gd w w':=by
 obtain ⟨key,va,vl,vc,fl,exp,cas,sec,seq,st,won,seen⟩:=i
 have hg:=Gd.alloc w (.cells (itC ⟨key,va,vl,vc,fl,exp,cas,sec,seq,st,won,seen⟩) 75)
 unfold itC at *
 dsimp only at *
 by_cases h1 : exp = 0
 ·subst h1
  go_enter Tryz.func107,Tryz.ntmps107
  go_wp2
  go_ret
  exact ⟨rfl,hg⟩
 ·have hb : (exp == 0) = false:=beq_eq_false_iff_ne.2 h1
  by_cases h2 : exp ≤ now
  ·have HA : Hid (jCv exp now = 0):=by show _ = _;unfold jCv;rw [if_neg h1,if_pos h2]
   go_enter Tryz.func107,Tryz.ntmps107
   go_wp2
   go_ret
   exact ⟨by rw [HA.out];rfl,hg⟩
  ·have HA : Hid (jCv exp now = wrap64 (exp - now)):=by show _ = _;unfold jCv;rw [if_neg h1,if_neg h2]
   go_enter Tryz.func107,Tryz.ntmps107
   go_wp2
   go_ret
   exact ⟨by rw [HA.out];rfl,hg⟩
theorem jIj (i : It) (w : World) (hk : i.key.size ≤ 140737488355328) (hl : i.vl ≤ 140737488355328) : Calls Tryz.prog 108 #[.agg (itC i)] w fun e w' => e = .returned (.int .i64 (50 + (i.key.size : Nat) + (i.vl : Nat))) ∧ Gd w w':=by
 obtain ⟨key,va,vl,vc,fl,exp,cas,sec,seq,st,won,seen⟩:=i
 have hg:=Gd.alloc w (.cells (itC ⟨key,va,vl,vc,fl,exp,cas,sec,seq,st,won,seen⟩) 75)
 unfold itC at *
 dsimp only at *
 have e1 : wrap64 (50 + (key.size : Int)) = 50 + (key.size : Int):=jHt (by omega)
 have e2 : wrap64 (50 + (key.size : Int) + (vl : Int)) = 50 + (key.size : Int) + (vl : Int):=jHt (by omega)
 go_enter Tryz.func108,Tryz.ntmps108
 go_wp2
 go_ret
 exact ⟨rfl,hg⟩
end
section
open Go.RowKit Go.Sort
theorem jTn {fn : Func} {p : Tmp} {ty : TypeId} (h : fn.results = #[.cell p ty]) (tmps : Array Value) (P : Program) (w : World) :
  (results fn tmps).run P w = ((asAddr (tmps.getD p undef)).run P w).andThen fun a w₁ => (loadVar ty a).run P w₁:=by
 simp only [results,h]
 simp [Sem.run_bind,Result.andThen]
theorem kCv (exp sec seq : Int) (e : En) :
  (exp ≠ 0 ∧ exp ≤ e.now ∧ jDd exp sec seq e = false) ∨
  ((exp = 0 ∨ (exp ≠ 0 ∧ e.now < exp)) ∧ ((e.flush = 0 ∧ jDd exp sec seq e = true) ∨ (e.flush ≠ 0 ∧ e.now < e.flush ∧ jDd exp sec seq e = true) ∨
   (e.flush ≠ 0 ∧ e.flush ≤ e.now ∧ ((e.flush < sec ∧ jDd exp sec seq e = true) ∨ (sec = e.flush ∧ e.fseq ≤ seq ∧ jDd exp sec seq e = true) ∨ (sec = e.flush ∧ seq < e.fseq ∧ jDd exp sec seq e = false) ∨ (sec < e.flush ∧ jDd exp sec seq e = false))))):=by
 by_cases h1 : exp ≠ 0 ∧ exp ≤ e.now
 ·exact .inl ⟨h1.1,h1.2,by unfold jDd;rw [if_pos h1]⟩
 ·refine .inr ⟨by omega,?_⟩
  have e1 : ∀ x,(e.flush = 0 ∨ e.now < e.flush) → x = true → jDd exp sec seq e = x:=fun x h hx => by unfold jDd;rw [if_neg h1,if_pos h,hx]
  by_cases h2 : e.flush = 0
  ·exact .inl ⟨h2,e1 _ (.inl h2) rfl⟩
  ·by_cases h3 : e.now < e.flush
   ·exact .inr (.inl ⟨h2,h3,e1 _ (.inr h3) rfl⟩)
   ·have e2 : jDd exp sec seq e = !decide (jHw sec seq e.flush e.fseq):=by unfold jDd;rw [if_neg h1,if_neg (by omega)]
    refine .inr (.inr ⟨h2,by omega,?_⟩)
    rw [e2]
    by_cases h4 : e.flush < sec
    ·exact .inl ⟨h4,by rw [decide_eq_false (by unfold jHw;omega)];rfl⟩
    ·by_cases h5 : sec = e.flush
     ·by_cases h6 : e.fseq ≤ seq
      ·exact .inr (.inl ⟨h5,h6,by rw [decide_eq_false (by unfold jHw;omega)];rfl⟩)
      ·exact .inr (.inr (.inl ⟨h5,by omega,by rw [decide_eq_true (by unfold jHw;omega)];rfl⟩))
     ·exact .inr (.inr (.inr ⟨by omega,by rw [decide_eq_true (by unfold jHw;omega)];rfl⟩))
set_option maxRecDepth 100000 in
theorem jF1 (i : It) (e : En) (w : World) : Calls Tryz.prog 68 #[.agg (itC i),.agg (enC e)] w fun x w' => x = .returned (.bool (jDd i.exp i.sec i.seq e)) ∧ Gd w w':=by
 have hc:=kCv i.exp i.sec i.seq e
 obtain ⟨key,va,vl,vc,fl,exp,cas,sec,seq,st,won,seen⟩:=i
 obtain ⟨now,eseq,flush,fseq⟩:=e
 have hg:=(Gd.alloc w (.cells (itC ⟨key,va,vl,vc,fl,exp,cas,sec,seq,st,won,seen⟩) 75)).trans (Gd.alloc _ (.cells (enC ⟨now,eseq,flush,fseq⟩) 35))
 unfold itC enC at *
 dsimp only at *
 generalize hr : jDd exp sec seq ⟨now,eseq,flush,fseq⟩ = r at *
 clear hr
 rcases hc with ⟨h1,h2,rfl⟩ | ⟨h1 | ⟨h1,h2⟩,⟨h3,rfl⟩ | ⟨h3,h4,rfl⟩ | ⟨h3,h4,⟨h5,rfl⟩ | ⟨h5,h6,rfl⟩ | ⟨h5,h6,rfl⟩ | ⟨h5,rfl⟩⟩⟩
 all_goals
  try (have b1 : (exp == 0) = false:=beq_eq_false_iff_ne.2 h1)
  try subst h1
  try (have b3 : (flush == 0) = false:=beq_eq_false_iff_ne.2 h3)
  try subst h3
  try (have b5 : (sec == flush) = false:=beq_eq_false_iff_ne.2 (by omega))
  try subst h5
  go_enter Tryz.func68,Tryz.ntmps68
  go_wp2
  go_ret
  refine ⟨?_,hg⟩
  first
   | rfl
   | (show Ending.returned (.bool (decide _)) = _;rw [decide_eq_false (by omega)])
   | (show Ending.returned (.bool (decide _)) = _;rw [decide_eq_true (by omega)])
end
end Go.Proofs.YtkfeafmpaodagaaGreatDoor
