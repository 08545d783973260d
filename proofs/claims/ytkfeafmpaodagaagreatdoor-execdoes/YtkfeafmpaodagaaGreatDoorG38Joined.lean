/- onThatOne of package exec. Conditions: the contracts of package shard; the variables of package num. onIt of package exec. Conditions: the contracts of package shard; the variables of package num. onIt of package exec, whole. Conditions: the contracts of package shard; the variables of package num. onNothing of package exec. Conditions: the contracts of package shard; the variables of package num. Do of package exec. Conditions: the contracts of package shard; the variables of package num. -/
import Derived.Test.YtkfeafmpaodagaaGreatDoorG37Joined
namespace Go.Proofs.YtkfeafmpaodagaaGreatDoor
set_option maxHeartbeats 16000000
set_option maxRecDepth 100000
section
set_option linter.unusedVariables false
open Go.RowKit Go.Shelf Go.Sort
variable {Sh : World → Nat → (Nat → Prop) → Nat → Nat → Hs → Prop}
section
variable {L : jA7 Sh} {w0 w : World} {k b sd n : Nat} {own : Nat → Prop} {st : Hs} {c : Cv} {va : Option Addr} {vc : Nat} {en : En} {i : Iv} {ia : Option Addr} {ic : Nat} {R : jAd}
def jCg (sd : Nat) (h : Hs) (c : Cv) (en : En) (i : Iv) : Rv × Hs :=
 if c.op = 3 ∨ c.op = 5 then jBb sd h c.key c.val c.fl (atW c.exp en.now) en
 else if c.op = 6 then jG5 sd h c.key i.val c.val i en
 else if c.op = 7 then jG5 sd h c.key c.val i.val i en
 else if c.op = 8 then (jAh 5,jBv h c.key)
 else if c.op = 9 then (jAh 5,jBa h (jDy c en i))
 else jC9 sd h c en i
theorem kAa (st : Hs) (k : ByteArray) : (jBv st k).slab.bud = st.slab.bud:=by
 unfold jBv
 split
 ·rfl
 ·exact jG2 _ _
theorem jMi (st : Hs) (i : Iv) : (jBa st i).slab.bud = st.slab.bud:=by
 unfold jBa
 split
 ·rfl
 ·split <;> rfl
theorem kDz (H : Law w0 w ((TnP k b c va vc en i ia ic).and ((shQ L b own sd n st).and ((jA5 0 ia ic i.val).and R)))) (hLd : jBr w0) (hn : n ≤ 4398046511104) (hl : n ≤ 900 ∨ st.slab.bud ≤ 57600) (hen : en.ok) (hc : c.ok) (hi : i.ok) (hv : i.val.length ≤ 3000) (hrd : Rd w0 R va vc c.val) (hop : c.op = 3) : Calls Tryz.prog 66 #[.pointer (some ⟨k,0,none⟩)] w (jJ1 L w0 b sd (n + 1) R (jCg sd st c en i)):=by
 have hr : jCg sd st c en i = (jBb sd st c.key c.val c.fl (atW c.exp en.now) en):=by unfold jCg;rw [hop];rfl
 have H0:=H.boxT (.cells (rsC jAg none 0) 40)
 have d1:=jCh H0.q.1
 rw [hop,← jAi] at d1
 rw [hr]
 clear H hr
 have HOP:=jAa hop
 clear hop
 go_enter Tryz.func66,Tryz.ntmps66
 go_wp2_with (first
  | (go_at_call 57;refine (jIq H0 hn hl hen hc hrd.right.right).mono ?_;rintro e w3 ⟨rfl,own3,j3,ja3,jc3,H3,h3⟩;have H4:=H3.right.rot;clear h3 H3 H0)
  | (refine stR_ w.heap.size (jBb sd st c.key c.val c.fl (atW c.exp en.now) en).1 none 0 rfl _ _ rfl rfl rfl H4.q.1 ?_;have H8:=H4.rsRow (jBb sd st c.key c.val c.fl (atW c.exp en.now) en).1 none 0))
 exact jAj rfl H8.q.1 rfl ⟨own3,rfl,H8.right.drop2⟩
theorem kD5 (H : Law w0 w ((TnP k b c va vc en i ia ic).and ((shQ L b own sd n st).and ((jA5 0 ia ic i.val).and R)))) (hLd : jBr w0) (hn : n ≤ 4398046511104) (hl : n ≤ 900 ∨ st.slab.bud ≤ 57600) (hen : en.ok) (hc : c.ok) (hi : i.ok) (hv : i.val.length ≤ 3000) (hrd : Rd w0 R va vc c.val) (hop : c.op = 5) : Calls Tryz.prog 66 #[.pointer (some ⟨k,0,none⟩)] w (jJ1 L w0 b sd (n + 1) R (jCg sd st c en i)):=by
 have hr : jCg sd st c en i = (jBb sd st c.key c.val c.fl (atW c.exp en.now) en):=by unfold jCg;rw [hop];rfl
 have H0:=H.boxT (.cells (rsC jAg none 0) 40)
 have d1:=jCh H0.q.1
 rw [hop,← jAi] at d1
 rw [hr]
 clear H hr
 have HOP:=jAa hop
 clear hop
 go_enter Tryz.func66,Tryz.ntmps66
 go_wp2_with (first
  | (go_at_call 57;refine (jIq H0 hn hl hen hc hrd.right.right).mono ?_;rintro e w3 ⟨rfl,own3,j3,ja3,jc3,H3,h3⟩;have H4:=H3.right.rot;clear h3 H3 H0)
  | (refine stR_ w.heap.size (jBb sd st c.key c.val c.fl (atW c.exp en.now) en).1 none 0 rfl _ _ rfl rfl rfl H4.q.1 ?_;have H8:=H4.rsRow (jBb sd st c.key c.val c.fl (atW c.exp en.now) en).1 none 0))
 exact jAj rfl H8.q.1 rfl ⟨own3,rfl,H8.right.drop2⟩
theorem kCt (H : Law w0 w ((TnP k b c va vc en i ia ic).and ((shQ L b own sd n st).and ((jA5 0 ia ic i.val).and R)))) (hLd : jBr w0) (hn : n ≤ 4398046511104) (hl : n ≤ 900 ∨ st.slab.bud ≤ 57600) (hen : en.ok) (hc : c.ok) (hi : i.ok) (hv : i.val.length ≤ 3000) (hrd : Rd w0 R va vc c.val) (hop : c.op = 6) : Calls Tryz.prog 66 #[.pointer (some ⟨k,0,none⟩)] w (jJ1 L w0 b sd (n + 1) R (jCg sd st c en i)):=by
 have hr : jCg sd st c en i = (jG5 sd st c.key i.val c.val i en):=by unfold jCg;rw [hop];rfl
 have H0:=H.boxT (.cells (rsC jAg none 0) 40)
 have d1:=jCh H0.q.1
 rw [hop,← jAi] at d1
 rw [hr]
 clear H hr
 have HOP:=jAa hop
 clear hop
 go_enter Tryz.func66,Tryz.ntmps66
 go_upto_region 6 with fail
 rw [jAi]
 generalize w.alloc (.cells (rsC jAg none 0) 40) = W at *
 have p3:=jXr H0.q.1
 have p16:=jLy H0.q.1
 change W.cell? ⟨k,16,none⟩ = some (.slice ia i.val.length ic) at p16
 have HH:=jAa H0
 clear H0 d1
 refine jB7 11 (by kernel_rfl) (by simp) (by kernel_rfl) ?_
 simp only [List.take_succ_cons,List.take_zero,List.drop_succ_cons,List.drop_zero]
 repeat (quiet_step (fail))
 refine wpQuiet_nil ?_
 intro _ hw'
 obtain ⟨nq,rfl⟩:=hw'
 have H1:=HH.out.drewN nq
 clear HH p3 p16
 generalize W.drewN nq = X at *
 go_wp2_with (first
  | (go_at_call 101;refine (jOn H1 hn hl hen hc hi (Rd.right (Rd.left Rd.val)) hrd.right.right hi.val hc.val).mono ?_;rintro e w3 ⟨own3,rfl,H3⟩;have H4:=H3.rot;clear H3 H1)
  | (refine stR_ w.heap.size (jG5 sd st c.key i.val c.val i en).1 none 0 rfl _ _ rfl rfl rfl H4.q.1 ?_;have H8:=H4.rsRow (jG5 sd st c.key i.val c.val i en).1 none 0))
 exact jAj rfl H8.q.1 rfl ⟨own3,rfl,H8.right.drop2⟩
theorem kD7 (H : Law w0 w ((TnP k b c va vc en i ia ic).and ((shQ L b own sd n st).and ((jA5 0 ia ic i.val).and R)))) (hLd : jBr w0) (hn : n ≤ 4398046511104) (hl : n ≤ 900 ∨ st.slab.bud ≤ 57600) (hen : en.ok) (hc : c.ok) (hi : i.ok) (hv : i.val.length ≤ 3000) (hrd : Rd w0 R va vc c.val) (hop : c.op = 7) : Calls Tryz.prog 66 #[.pointer (some ⟨k,0,none⟩)] w (jJ1 L w0 b sd (n + 1) R (jCg sd st c en i)):=by
 have hr : jCg sd st c en i = (jG5 sd st c.key c.val i.val i en):=by unfold jCg;rw [hop];rfl
 have H0:=H.boxT (.cells (rsC jAg none 0) 40)
 have d1:=jCh H0.q.1
 rw [hop,← jAi] at d1
 rw [hr]
 clear H hr
 have HOP:=jAa hop
 clear hop
 go_enter Tryz.func66,Tryz.ntmps66
 go_upto_region 8 with fail
 rw [jAi]
 generalize w.alloc (.cells (rsC jAg none 0) 40) = W at *
 have p3:=jXr H0.q.1
 have p16:=jLy H0.q.1
 change W.cell? ⟨k,16,none⟩ = some (.slice ia i.val.length ic) at p16
 have HH:=jAa H0
 clear H0 d1
 refine jB7 11 (by kernel_rfl) (by simp) (by kernel_rfl) ?_
 simp only [List.take_succ_cons,List.take_zero,List.drop_succ_cons,List.drop_zero]
 repeat (quiet_step (fail))
 refine wpQuiet_nil ?_
 intro _ hw'
 obtain ⟨nq,rfl⟩:=hw'
 have H1:=HH.out.drewN nq
 clear HH p3 p16
 generalize W.drewN nq = X at *
 go_wp2_with (first
  | (go_at_call 101;refine (jOn H1 hn hl hen hc hi hrd.right.right (Rd.right (Rd.left Rd.val)) hc.val hi.val).mono ?_;rintro e w3 ⟨own3,rfl,H3⟩;have H4:=H3.rot;clear H3 H1)
  | (refine stR_ w.heap.size (jG5 sd st c.key c.val i.val i en).1 none 0 rfl _ _ rfl rfl rfl H4.q.1 ?_;have H8:=H4.rsRow (jG5 sd st c.key c.val i.val i en).1 none 0))
 exact jAj rfl H8.q.1 rfl ⟨own3,rfl,H8.right.drop2⟩
theorem kC5 (H : Law w0 w ((TnP k b c va vc en i ia ic).and ((shQ L b own sd n st).and ((jA5 0 ia ic i.val).and R)))) (hLd : jBr w0) (hn : n ≤ 4398046511104) (hl : n ≤ 900 ∨ st.slab.bud ≤ 57600) (hen : en.ok) (hc : c.ok) (hi : i.ok) (hv : i.val.length ≤ 3000) (hrd : Rd w0 R va vc c.val) (hop : c.op = 8) : Calls Tryz.prog 66 #[.pointer (some ⟨k,0,none⟩)] w (jJ1 L w0 b sd (n + 1) R (jCg sd st c en i)):=by
 have hr : jCg sd st c en i = (jAh 5,jBv st c.key):=by unfold jCg;rw [hop];rfl
 have H0:=H.boxT (.cells (rsC jAg none 0) 40)
 have d1:=jCh H0.q.1
 rw [hop,← jAi] at d1
 rw [hr]
 clear H hr
 have HOP:=jAa hop
 clear hop
 go_enter Tryz.func66,Tryz.ntmps66
 go_upto_region 15 with fail
 rw [jAi]
 generalize w.alloc (.cells (rsC jAg none 0) 40) = W at *
 have p0:=tu_s H0.q.1
 have p2:=jXs H0.q.1
 have HH:=jAa H0
 clear H0 d1
 refine jB7 9 (by kernel_rfl) (by simp) (by kernel_rfl) ?_
 simp only [List.take_succ_cons,List.take_zero,List.drop_succ_cons,List.drop_zero]
 repeat (quiet_step (fail))
 refine wpQuiet_nil ?_
 intro _ hw'
 obtain ⟨nq,rfl⟩:=hw'
 have H1:=HH.out.drewN nq
 clear HH p0 p2
 generalize W.drewN nq = X at *
 have H2:=H1.right
 clear H1
 go_wp2_with (first
  | (go_at_call 104;refine (jZz L H2 hn c.key hc.key _ rfl).mono ?_;rintro e w3 ⟨rfl,own3,H3⟩;clear H2)
  | (go_at_call 52;refine (jBz 5 _).mono ?_;rintro e w5 ⟨rfl,hg⟩;have H4:=(H3.step hg).rot;clear hg H3)
  | (refine stR_ w.heap.size (jAh 5) none 0 rfl _ _ rfl rfl rfl H4.q.1 ?_;have H8:=H4.rsRow (jAh 5) none 0))
 exact jAj rfl H8.q.1 rfl ⟨own3,rfl,H8.right.drop2.shMono (Nat.le_succ n) (by show n + 1 ≤ 901 ∨ (jBv st c.key).slab.bud ≤ 57600;rw [kAa];exact hl.imp Nat.succ_le_succ id)⟩
theorem kDc (H : Law w0 w ((TnP k b c va vc en i ia ic).and ((shQ L b own sd n st).and ((jA5 0 ia ic i.val).and R)))) (hLd : jBr w0) (hn : n ≤ 4398046511104) (hl : n ≤ 900 ∨ st.slab.bud ≤ 57600) (hen : en.ok) (hc : c.ok) (hi : i.ok) (hv : i.val.length ≤ 3000) (hrd : Rd w0 R va vc c.val) (hop : c.op = 9) : Calls Tryz.prog 66 #[.pointer (some ⟨k,0,none⟩)] w (jJ1 L w0 b sd (n + 1) R (jCg sd st c en i)):=by
 have hr : jCg sd st c en i = (jAh 5,jBa st (jDy c en i)):=by unfold jCg;rw [hop];rfl
 have H0:=H.boxT (.cells (rsC jAg none 0) 40)
 have d1:=jCh H0.q.1
 rw [hop,← jAi] at d1
 rw [hr]
 clear H hr
 have HOP:=jAa hop
 clear hop
 have hx:=jCm hc.exp hen.now
 have hok : (jDy c en i).ok:=⟨hi.key,hi.val,by unfold jDy;dsimp only;split;exact hx;exact hi.exp,hi.sec,hi.seq⟩
 go_enter Tryz.func66,Tryz.ntmps66
 go_wp2_with (first
  | (go_at_call 103;refine (jWc (j:=jDy c en i) H0 hn hen rfl hok (Rd.right (Rd.left Rd.val))).mono ?_;rintro e w3 ⟨⟨v3,rfl⟩,own3,H3⟩;clear H0)
  | (go_at_call 52;refine (jBz 5 _).mono ?_;rintro e w5 ⟨rfl,hg⟩;have H4:=(H3.step hg).rot;clear hg H3)
  | (refine stR_ w.heap.size (jAh 5) none 0 rfl _ _ rfl rfl rfl H4.q.1 ?_;have H8:=H4.rsRow (jAh 5) none 0))
 exact jAj rfl H8.q.1 rfl ⟨own3,rfl,H8.right.drop2.shMono (Nat.le_succ n) (by show n + 1 ≤ 901 ∨ (jBa st (jDy c en i)).slab.bud ≤ 57600;rw [jMi];exact hl.imp Nat.succ_le_succ id)⟩
theorem jZs (H : Law w0 w ((TnP k b c va vc en i ia ic).and ((shQ L b own sd n st).and ((jA5 0 ia ic i.val).and R)))) (hLd : jBr w0) (hn : n ≤ 4398046511104) (hl : n ≤ 900 ∨ st.slab.bud ≤ 57600) (hen : en.ok) (hc : c.ok) (hi : i.ok) (hv : i.val.length ≤ 3000) (hrd : Rd w0 R va vc c.val) (hop : c.op = 10) : Calls Tryz.prog 66 #[.pointer (some ⟨k,0,none⟩)] w (jJ1 L w0 b sd (n + 1) R (jCg sd st c en i)):=by
 have hr : jCg sd st c en i = (jC9 sd st c en i):=by unfold jCg;rw [hop];rfl
 have H0:=H.boxT (.cells (rsC jAg none 0) 40)
 have d1:=jCh H0.q.1
 rw [hop,← jAi] at d1
 rw [hr]
 clear H hr
 have HOP:=jAa hop
 clear hop
 go_enter Tryz.func66,Tryz.ntmps66
 go_wp2_with (first
  | (go_at_call 102;refine (jUa H0 hLd hn hl hen hc hi hv (.inl HOP.out) (Rd.right (Rd.left Rd.val))).mono ?_;rintro e w3 ⟨own3,rfl,H3⟩;have H4:=H3.rot;clear H3 H0)
  | (refine stR_ w.heap.size (jC9 sd st c en i).1 none 0 rfl _ _ rfl rfl rfl H4.q.1 ?_;have H8:=H4.rsRow (jC9 sd st c en i).1 none 0))
 exact jAj rfl H8.q.1 rfl ⟨own3,rfl,H8.right.drop2⟩
theorem kAf (H : Law w0 w ((TnP k b c va vc en i ia ic).and ((shQ L b own sd n st).and ((jA5 0 ia ic i.val).and R)))) (hLd : jBr w0) (hn : n ≤ 4398046511104) (hl : n ≤ 900 ∨ st.slab.bud ≤ 57600) (hen : en.ok) (hc : c.ok) (hi : i.ok) (hv : i.val.length ≤ 3000) (hrd : Rd w0 R va vc c.val) (hop : c.op = 11) : Calls Tryz.prog 66 #[.pointer (some ⟨k,0,none⟩)] w (jJ1 L w0 b sd (n + 1) R (jCg sd st c en i)):=by
 have hr : jCg sd st c en i = (jC9 sd st c en i):=by unfold jCg;rw [hop];rfl
 have H0:=H.boxT (.cells (rsC jAg none 0) 40)
 have d1:=jCh H0.q.1
 rw [hop,← jAi] at d1
 rw [hr]
 clear H hr
 have HOP:=jAa hop
 clear hop
 go_enter Tryz.func66,Tryz.ntmps66
 go_wp2_with (first
  | (go_at_call 102;refine (jUa H0 hLd hn hl hen hc hi hv (.inr HOP.out) (Rd.right (Rd.left Rd.val))).mono ?_;rintro e w3 ⟨own3,rfl,H3⟩;have H4:=H3.rot;clear H3 H0)
  | (refine stR_ w.heap.size (jC9 sd st c en i).1 none 0 rfl _ _ rfl rfl rfl H4.q.1 ?_;have H8:=H4.rsRow (jC9 sd st c en i).1 none 0))
 exact jAj rfl H8.q.1 rfl ⟨own3,rfl,H8.right.drop2⟩
theorem jOm (H : Law w0 w ((TnP k b c va vc en i ia ic).and ((shQ L b own sd n st).and ((jA5 0 ia ic i.val).and R)))) (hLd : jBr w0) (hn : n ≤ 4398046511104) (hl : n ≤ 900 ∨ st.slab.bud ≤ 57600) (hen : en.ok) (hc : c.ok) (hi : i.ok) (hv : i.val.length ≤ 3000) (hrd : Rd w0 R va vc c.val) (hop : c.op = 3 ∨ c.op = 5 ∨ c.op = 6 ∨ c.op = 7 ∨ c.op = 8 ∨ c.op = 9 ∨ c.op = 10 ∨ c.op = 11) : Calls Tryz.prog 66 #[.pointer (some ⟨k,0,none⟩)] w (jJ1 L w0 b sd (n + 1) R (jCg sd st c en i)):=by
 rcases hop with h | h | h | h | h | h | h | h
 ·exact kDz H hLd hn hl hen hc hi hv hrd h
 ·exact kD5 H hLd hn hl hen hc hi hv hrd h
 ·exact kCt H hLd hn hl hen hc hi hv hrd h
 ·exact kD7 H hLd hn hl hen hc hi hv hrd h
 ·exact kC5 H hLd hn hl hen hc hi hv hrd h
 ·exact kDc H hLd hn hl hen hc hi hv hrd h
 ·exact jZs H hLd hn hl hen hc hi hv hrd h
 ·exact kAf H hLd hn hl hen hc hi hv hrd h
end
end
section
set_option linter.unusedVariables false
open Go.RowKit Go.Shelf Go.Sort
variable {Sh : World → Nat → (Nat → Prop) → Nat → Nat → Hs → Prop}
theorem kN2 {a e : Ent} (h : a.1.key = e.1.key) (l : List Ent) : jCp e (jCp a l) = jCp e l:=by
 have hlt : ∀ x : Ent,ltK x.1.key e.1.key = true → ltK e.1.key x.1.key = false:=fun x hx => jI5 hx
 have hgt : ∀ x : Ent,ltK e.1.key x.1.key = true → ltK x.1.key e.1.key = false:=fun x hx => jI5 hx
 have hself : ltK e.1.key e.1.key = false:=by
  cases hq : ltK e.1.key e.1.key with
  | false => rfl
  | true => exact absurd rfl (jEz hq)
 have f1 : (jCp a l).filter (fun x => ltK x.1.key e.1.key) = l.filter fun x => ltK x.1.key e.1.key:=by
  unfold jCp
  rw [List.filter_append,List.filter_cons,List.filter_filter,List.filter_filter,h,hself]
  simp only [Bool.and_self,Bool.false_eq_true,if_false]
  have : (l.filter fun x => ltK x.1.key e.1.key && ltK e.1.key x.1.key) = []:=by
   rw [List.filter_eq_nil_iff]
   intro x _ hx
   rw [Bool.and_eq_true] at hx
   rw [hlt x hx.1] at hx
   cases hx.2
  rw [this,List.append_nil]
 have f2 : (jCp a l).filter (fun x => ltK e.1.key x.1.key) = l.filter fun x => ltK e.1.key x.1.key:=by
  unfold jCp
  rw [List.filter_append,List.filter_cons,List.filter_filter,List.filter_filter,h,hself]
  simp only [Bool.and_self,Bool.false_eq_true,if_false]
  have : (l.filter fun x => ltK e.1.key x.1.key && ltK x.1.key e.1.key) = []:=by
   rw [List.filter_eq_nil_iff]
   intro x _ hx
   rw [Bool.and_eq_true] at hx
   rw [hgt x hx.1] at hx
   cases hx.2
  rw [this,List.nil_append]
 show (jCp a l).filter (fun x => ltK x.1.key e.1.key) ++ e :: (jCp a l).filter (fun x => ltK e.1.key x.1.key) = _
 rw [f1,f2]
 rfl
theorem kN8 {n : Nat} {h : Hs} (g : jAo n h) {a e : Iv} (hk : a.key = e.key) (hv : a.val.length = e.val.length) : jBa (jBa h a) e = jBa h e:=by
 unfold jBa
 cases hf : jA0 a.key h.ents with
 | none =>
  rw [← hk,hf]
 | some x =>
  dsimp only
  by_cases hl : a.val.length = x.1.val.length
  ·have h1:=kLb g.rise (a,x.2)
   rw [if_pos hl,← hk,hf]
   dsimp only
   rw [show jA0 a.key (jCp (a,x.2) h.ents) = some (a,x.2) from h1]
   dsimp only
   rw [if_pos hv.symm,if_pos (by rw [← hv];exact hl),kN2 (a:=(a,x.2)) (e:=(e,x.2)) hk]
  ·rw [if_neg hl,← hk,hf]
theorem jJ7 (sd : Nat) (h : Hs) (key : ByteArray) (v : List UInt8) (fl exp : Int) (en : En) : (jBb sd h key v fl exp en).1.val = []:=by
 unfold jBb stR
 dsimp only
 repeat' split
 all_goals rfl
theorem jXp (sd : Nat) (h : Hs) (key : ByteArray) (u v : List UInt8) (i : Iv) (en : En) : (jG5 sd h key u v i en).1.val = []:=by
 unfold jG5
 split
 ·rfl
 ·exact jJ7 _ _ _ _ _ _ _
theorem jOe (r : Rv × Hs) (x : Int) (h : r.1.val = []) : (jBc r x).1.val = []:=by
 unfold jBc
 split <;> exact h
theorem jXt (sd : Nat) (h : Hs) (c : Cv) (en : En) (i : Iv) : (jCg sd h c en i).1.val = []:=by
 unfold jCg
 split
 ·exact jJ7 _ _ _ _ _ _ _
 ·split
  ·exact jXp _ _ _ _ _ _ _
  ·split
   ·exact jXp _ _ _ _ _ _ _
   ·split
    ·rfl
    ·split
     ·rfl
     ·unfold jC9
      split
      ·rfl
      ·split
       ·rfl
       ·exact jOe _ _ (jJ7 _ _ _ _ _ _ _)
section
variable {L : jA7 Sh} {w0 w : World} {k b sd n : Nat} {own : Nat → Prop} {st : Hs} {c : Cv} {va : Option Addr} {vc : Nat} {en : En} {i : Iv} {ia : Option Addr} {ic : Nat} {R : jAd}
theorem Law.five {A B C D E : jAd} (H : Law w0 w (A.and (B.and (C.and (D.and (E.and R)))))) : Law w0 w (A.and (B.and (E.and (C.and (D.and R))))):=H.unassoc.unassoc.rin.assoc.rin.assoc
theorem jBt {r : Rv × Hs} {own' : Nat → Prop} {e : Ending} {w' : World} (he : e = .returned (.agg (rsC r.1 none 0))) (hv : r.1.val = []) (H : Law w0 w' ((shQ L b own' sd n r.2).and R)) : jDl L w0 b sd n R r e w':=by
 refine ⟨none,0,own',he,?_⟩
 rw [hv]
 exact H.noVal
theorem kMe (H : Law w0 w ((TnP k b c va vc en i ia ic).and ((shQ L b own sd n st).and ((jA5 0 ia ic i.val).and R)))) (hLd : jBr w0) (hn : n ≤ 4398046511104) (hl : n ≤ 900 ∨ st.slab.bud ≤ 57600) (hen : en.ok) (hc : c.ok) (hi : i.ok) (hv : i.val.length ≤ 3000) (hrd : Rd w0 R va vc c.val) (hop : c.op = 0) : Calls Tryz.prog 32 #[.pointer (some ⟨k,0,none⟩)] w (jDl L w0 b sd (n + 1) R (jC3 sd st c en i)):=by
 have hr : jC3 sd st c en i = (jA8 ({ i with seen:=true } : Iv) en,jBa st ({ i with seen:=true } : Iv)):=by unfold jC3;rw [hop];rw [if_pos (.inl rfl)];unfold jEd;rw [hop];rfl
 have hG : jAo n st:=L.good H.right.q.1
 have H1:=(H.boxT (.cells #[.pointer (some ⟨k,0,none⟩)] 79)).boxT (.cells (rsC jAg none 0) 40)
 rw [World.size_alloc] at H1
 have d1:=jCh H1.q.1
 have k1 : ((w.alloc (.cells #[.pointer (some ⟨k,0,none⟩)] 79)).alloc (.cells (rsC jAg none 0) 40)).cell? ⟨w.heap.size,0,none⟩ = some (.pointer (some ⟨k,0,none⟩)):=jDj H1.right.right.right.left.q
 rw [hop,← jAi] at d1
 rw [← jAi] at k1
 have hx:=jCm hc.exp hen.now
 have hl1:=hl.imp Nat.succ_le_succ id
 rw [hr]
 clear H hr
 have HOP:=jAa hop
 clear hop
 have hokS : ({ i with seen:=true } : Iv).ok:=⟨hi.key,hi.val,hi.exp,hi.sec,hi.seq⟩
 have hbu : n + 1 ≤ 901 ∨ (jBa st ({ i with seen:=true } : Iv)).slab.bud ≤ 57600:=by rw [jMi];exact hl1
 go_enter Tryz.func32,Tryz.ntmps32
 go_wp2_with (first
  | (go_at_call 62;refine (jS1 H1 hn (j:=({ i with seen:=true } : Iv)) rfl hokS (Rd.right (Rd.right (Rd.left Rd.val)))).mono ?_;rintro e w5 ⟨⟨v5,rfl⟩,own5,H6⟩;have k5 : w5.cell? ⟨w.heap.size,0,none⟩ = some (.pointer (some ⟨k,0,none⟩)):=jDj H6.right.right.right.left.q;clear H1)
  | (go_at_call 64;refine (jNq H6.q.1).mono ?_;rintro e w6 ⟨rfl,hg⟩;have H7:=(H6.step hg).right.rot;clear hg H6 k5)
  | (refine stR_ (w.heap.size + 1) (jA8 ({ i with seen:=true } : Iv) en) ia ic rfl _ _ rfl rfl rfl H7.q.1 ?_;have H8:=H7.rsRow (jA8 ({ i with seen:=true } : Iv) en) ia ic))
 exact jAj rfl H8.q.1 rfl ⟨ia,ic,own5,rfl,H8.right.drop2.shMono (Nat.le_succ n) hbu⟩
theorem kKi (H : Law w0 w ((TnP k b c va vc en i ia ic).and ((shQ L b own sd n st).and ((jA5 0 ia ic i.val).and R)))) (hLd : jBr w0) (hn : n ≤ 4398046511104) (hl : n ≤ 900 ∨ st.slab.bud ≤ 57600) (hen : en.ok) (hc : c.ok) (hi : i.ok) (hv : i.val.length ≤ 3000) (hrd : Rd w0 R va vc c.val) (hop : c.op = 1) : Calls Tryz.prog 32 #[.pointer (some ⟨k,0,none⟩)] w (jDl L w0 b sd (n + 1) R (jC3 sd st c en i)):=by
 have hr : jC3 sd st c en i = (jA8 ({ i with exp:=atW c.exp en.now,seen:=true } : Iv) en,jBa st ({ i with exp:=atW c.exp en.now,seen:=true } : Iv)):=by unfold jC3;rw [hop];rw [if_pos (.inr rfl)];unfold jEd;rw [hop];rfl
 have hG : jAo n st:=L.good H.right.q.1
 have H1:=(H.boxT (.cells #[.pointer (some ⟨k,0,none⟩)] 79)).boxT (.cells (rsC jAg none 0) 40)
 rw [World.size_alloc] at H1
 have d1:=jCh H1.q.1
 have k1 : ((w.alloc (.cells #[.pointer (some ⟨k,0,none⟩)] 79)).alloc (.cells (rsC jAg none 0) 40)).cell? ⟨w.heap.size,0,none⟩ = some (.pointer (some ⟨k,0,none⟩)):=jDj H1.right.right.right.left.q
 rw [hop,← jAi] at d1
 rw [← jAi] at k1
 have hx:=jCm hc.exp hen.now
 have hl1:=hl.imp Nat.succ_le_succ id
 rw [hr]
 clear H hr
 have HOP:=jAa hop
 clear hop
 have hokE : ({ i with exp:=atW c.exp en.now } : Iv).ok:=⟨hi.key,hi.val,hx,hi.sec,hi.seq⟩
 have hokS : ({ i with exp:=atW c.exp en.now,seen:=true } : Iv).ok:=⟨hi.key,hi.val,hx,hi.sec,hi.seq⟩
 have hbu : n + 1 ≤ 901 ∨ (jBa st ({ i with exp:=atW c.exp en.now,seen:=true } : Iv)).slab.bud ≤ 57600:=by rw [jMi];exact hl1
 have HUU : Hid (jBa (jBa st ({ i with exp:=atW c.exp en.now } : Iv)) ({ i with exp:=atW c.exp en.now,seen:=true } : Iv) = jBa st ({ i with exp:=atW c.exp en.now,seen:=true } : Iv)):=kN8 hG rfl rfl
 have hkt : jF4 w0 ((shQ L b own sd n st).and ((jAn (w.heap.size + 1) (.cells (rsC jAg none 0) 40)).and ((jAn w.heap.size (.cells #[.pointer (some ⟨k,0,none⟩)] 79)).and ((jA5 0 ia ic i.val).and R)))) w.heap.size (.pointer (some ⟨k,0,none⟩)):=fun W HW => jDj HW.right.right.left.q
 go_enter Tryz.func32,Tryz.ntmps32
 go_wp2_with (first
  | (go_at_call 62;refine (jVf H1 hn hkt (j:=({ i with exp:=atW c.exp en.now } : Iv)) rfl hokE (Rd.right (Rd.right (Rd.left Rd.val)))).mono ?_;rintro e w3 ⟨⟨v3,rfl⟩,own3,H3⟩;clear H1 hkt k1 d1;have k3 : w3.cell? ⟨w.heap.size,0,none⟩ = some (.pointer (some ⟨k,0,none⟩)):=jDj H3.right.right.right.left.q)
  | (go_at_call 62;refine (jS1 H3 hn (j:=({ i with exp:=atW c.exp en.now,seen:=true } : Iv)) rfl hokS (Rd.right (Rd.right (Rd.left Rd.val)))).mono ?_;rw [HUU.out];rintro e w5 ⟨⟨v5,rfl⟩,own5,H6⟩;have k5 : w5.cell? ⟨w.heap.size,0,none⟩ = some (.pointer (some ⟨k,0,none⟩)):=jDj H6.right.right.right.left.q;clear H3 k3)
  | (go_at_call 64;refine (jNq H6.q.1).mono ?_;rintro e w6 ⟨rfl,hg⟩;have H7:=(H6.step hg).right.rot;clear hg H6 k5)
  | (refine stR_ (w.heap.size + 1) (jA8 ({ i with exp:=atW c.exp en.now,seen:=true } : Iv) en) ia ic rfl _ _ rfl rfl rfl H7.q.1 ?_;have H8:=H7.rsRow (jA8 ({ i with exp:=atW c.exp en.now,seen:=true } : Iv) en) ia ic))
 exact jAj rfl H8.q.1 rfl ⟨ia,ic,own5,rfl,H8.right.drop2.shMono (Nat.le_succ n) hbu⟩
theorem kLl (H : Law w0 w ((TnP k b c va vc en i ia ic).and ((shQ L b own sd n st).and ((jA5 0 ia ic i.val).and R)))) (hLd : jBr w0) (hn : n ≤ 4398046511104) (hl : n ≤ 900 ∨ st.slab.bud ≤ 57600) (hen : en.ok) (hc : c.ok) (hi : i.ok) (hv : i.val.length ≤ 3000) (hrd : Rd w0 R va vc c.val) (hop : c.op = 2) : Calls Tryz.prog 32 #[.pointer (some ⟨k,0,none⟩)] w (jDl L w0 b sd (n + 1) R (jC3 sd st c en i)):=by
 have hr : jC3 sd st c en i = (jAh 6,jBa st ({ i with exp:=atW c.exp en.now } : Iv)):=by unfold jC3;rw [hop];rw [if_neg (by decide),if_pos rfl];unfold jEd;rw [hop];rfl
 have hG : jAo n st:=L.good H.right.q.1
 have H1:=(H.boxT (.cells #[.pointer (some ⟨k,0,none⟩)] 79)).boxT (.cells (rsC jAg none 0) 40)
 rw [World.size_alloc] at H1
 have d1:=jCh H1.q.1
 have k1 : ((w.alloc (.cells #[.pointer (some ⟨k,0,none⟩)] 79)).alloc (.cells (rsC jAg none 0) 40)).cell? ⟨w.heap.size,0,none⟩ = some (.pointer (some ⟨k,0,none⟩)):=jDj H1.right.right.right.left.q
 rw [hop,← jAi] at d1
 rw [← jAi] at k1
 have hx:=jCm hc.exp hen.now
 have hl1:=hl.imp Nat.succ_le_succ id
 rw [hr]
 clear H hr
 have HOP:=jAa hop
 clear hop
 have hokE : ({ i with exp:=atW c.exp en.now } : Iv).ok:=⟨hi.key,hi.val,hx,hi.sec,hi.seq⟩
 have hbu : n + 1 ≤ 901 ∨ (jBa st ({ i with exp:=atW c.exp en.now } : Iv)).slab.bud ≤ 57600:=by rw [jMi];exact hl1
 have hkt : jF4 w0 ((shQ L b own sd n st).and ((jAn (w.heap.size + 1) (.cells (rsC jAg none 0) 40)).and ((jAn w.heap.size (.cells #[.pointer (some ⟨k,0,none⟩)] 79)).and ((jA5 0 ia ic i.val).and R)))) w.heap.size (.pointer (some ⟨k,0,none⟩)):=fun W HW => jDj HW.right.right.left.q
 go_enter Tryz.func32,Tryz.ntmps32
 go_wp2_with (first
  | (go_at_call 62;refine (jVf H1 hn hkt (j:=({ i with exp:=atW c.exp en.now } : Iv)) rfl hokE (Rd.right (Rd.right (Rd.left Rd.val)))).mono ?_;rintro e w3 ⟨⟨v3,rfl⟩,own3,H3⟩;clear H1 hkt k1 d1)
  | (go_at_call 52;refine (jBz 6 _).mono ?_;rintro e w6 ⟨rfl,hg⟩;have H7:=(H3.step hg).right.rot;clear hg H3)
  | (refine stR_ (w.heap.size + 1) (jAh 6) none 0 rfl _ _ rfl rfl rfl H7.q.1 ?_;have H8:=H7.rsRow (jAh 6) none 0))
 exact jAj rfl H8.q.1 rfl (jBt rfl rfl (H8.right.drop2.drop2.shMono (Nat.le_succ n) hbu))
theorem kJi (H : Law w0 w ((TnP k b c va vc en i ia ic).and ((shQ L b own sd n st).and ((jA5 0 ia ic i.val).and R)))) (hLd : jBr w0) (hn : n ≤ 4398046511104) (hl : n ≤ 900 ∨ st.slab.bud ≤ 57600) (hen : en.ok) (hc : c.ok) (hi : i.ok) (hv : i.val.length ≤ 3000) (hrd : Rd w0 R va vc c.val) (hop : c.op = 4) : Calls Tryz.prog 32 #[.pointer (some ⟨k,0,none⟩)] w (jDl L w0 b sd (n + 1) R (jC3 sd st c en i)):=by
 have hr : jC3 sd st c en i = (jAh 3,st):=by unfold jC3;rw [hop];rfl
 have hG : jAo n st:=L.good H.right.q.1
 have H1:=(H.boxT (.cells #[.pointer (some ⟨k,0,none⟩)] 79)).boxT (.cells (rsC jAg none 0) 40)
 rw [World.size_alloc] at H1
 have d1:=jCh H1.q.1
 have k1 : ((w.alloc (.cells #[.pointer (some ⟨k,0,none⟩)] 79)).alloc (.cells (rsC jAg none 0) 40)).cell? ⟨w.heap.size,0,none⟩ = some (.pointer (some ⟨k,0,none⟩)):=jDj H1.right.right.right.left.q
 rw [hop,← jAi] at d1
 rw [← jAi] at k1
 have hx:=jCm hc.exp hen.now
 have hl1:=hl.imp Nat.succ_le_succ id
 rw [hr]
 clear H hr
 have HOP:=jAa hop
 clear hop
 go_enter Tryz.func32,Tryz.ntmps32
 go_wp2_with (first
  | (go_at_call 52;refine (jBz 3 _).mono ?_;rintro e w6 ⟨rfl,hg⟩;have H7:=(H1.step hg).right.rot;clear hg H1)
  | (refine stR_ (w.heap.size + 1) (jAh 3) none 0 rfl _ _ rfl rfl rfl H7.q.1 ?_;have H8:=H7.rsRow (jAh 3) none 0))
 exact jAj rfl H8.q.1 rfl (jBt rfl rfl (H8.right.drop2.drop2.shMono (Nat.le_succ n) hl1))
theorem kGh (H : Law w0 w ((TnP k b c va vc en i ia ic).and ((shQ L b own sd n st).and ((jA5 0 ia ic i.val).and R)))) (hLd : jBr w0) (hn : n ≤ 4398046511104) (hl : n ≤ 900 ∨ st.slab.bud ≤ 57600) (hen : en.ok) (hc : c.ok) (hi : i.ok) (hv : i.val.length ≤ 3000) (hrd : Rd w0 R va vc c.val) (hop : c.op = 12) : Calls Tryz.prog 32 #[.pointer (some ⟨k,0,none⟩)] w (jDl L w0 b sd (n + 1) R (jC3 sd st c en i)):=by
 have hr : jC3 sd st c en i = (({ jA8 (jC2 c en i) en with lost:=i.won,won:=!i.won && i.st } : Rv),jBa st ({ jC2 c en i with won:=i.won || i.st } : Iv)):=by unfold jC3;rw [hop];rfl
 have hG : jAo n st:=L.good H.right.q.1
 have H1:=(H.boxT (.cells #[.pointer (some ⟨k,0,none⟩)] 79)).boxT (.cells (rsC jAg none 0) 40)
 rw [World.size_alloc] at H1
 have d1:=jCh H1.q.1
 have k1 : ((w.alloc (.cells #[.pointer (some ⟨k,0,none⟩)] 79)).alloc (.cells (rsC jAg none 0) 40)).cell? ⟨w.heap.size,0,none⟩ = some (.pointer (some ⟨k,0,none⟩)):=jDj H1.right.right.right.left.q
 rw [hop,← jAi] at d1
 rw [← jAi] at k1
 have hx:=jCm hc.exp hen.now
 have hl1:=hl.imp Nat.succ_le_succ id
 rw [hr]
 clear H hr
 have HOP:=jAa hop
 clear hop
 have hbu : n + 1 ≤ 901 ∨ (jBa st ({ jC2 c en i with won:=i.won || i.st } : Iv)).slab.bud ≤ 57600:=by rw [jMi];exact hl1
 have H1:=H1.five
 go_enter Tryz.func32,Tryz.ntmps32
 go_wp2_with (first
  | (go_at_call 65;refine (kNx H1 hn hen hc hi).mono ?_;rintro e w3 ⟨a3,c3,own3,rfl,H3⟩;have H7:=(H3.rin.rot);clear H3 H1)
  | (refine stR_ (w.heap.size + 1) ({ jA8 (jC2 c en i) en with lost:=i.won,won:=!i.won && i.st } : Rv) a3 c3 rfl _ _ rfl rfl rfl H7.q.1 ?_;have H8:=H7.rsRow ({ jA8 (jC2 c en i) en with lost:=i.won,won:=!i.won && i.st } : Rv) a3 c3))
 exact jAj rfl H8.q.1 rfl ⟨a3,c3,own3,rfl,(H8.right.rin.drop2).shMono (Nat.le_succ n) hbu⟩
end
end
section
set_option linter.unusedVariables false
open Go.RowKit Go.Shelf Go.Sort
variable {Sh : World → Nat → (Nat → Prop) → Nat → Nat → Hs → Prop}
section
variable {L : jA7 Sh} {w0 w : World} {k b sd n : Nat} {own : Nat → Prop} {st : Hs} {c : Cv} {va : Option Addr} {vc : Nat} {en : En} {i : Iv} {ia : Option Addr} {ic : Nat} {R : jAd}
theorem kI1 (hop : c.op = 3 ∨ c.op = 5 ∨ c.op = 6 ∨ c.op = 7 ∨ c.op = 8 ∨ c.op = 9 ∨ c.op = 10 ∨ c.op = 11) : jC3 sd st c en i = if c.cas ≠ 0 ∧ c.cas ≠ i.cas then (jAh 4,st) else jCg sd st c en i:=by
 unfold jC3 jCg
 rcases hop with e | e | e | e | e | e | e | e <;> rw [e]
 ·rfl
 ·rfl
 ·unfold jG5 joinV
  rw [e]
  rfl
 ·unfold jG5 joinV
  rw [e,Nat.add_comm c.val.length]
  rfl
 ·rfl
 ·rfl
 ·unfold jC9
  rfl
 ·unfold jC9
  rfl
theorem jZ8 (H : Law w0 w ((TnP k b c va vc en i ia ic).and ((shQ L b own sd n st).and ((jA5 0 ia ic i.val).and R)))) (hLd : jBr w0) (hn : n ≤ 4398046511104) (hl : n ≤ 900 ∨ st.slab.bud ≤ 57600) (hen : en.ok) (hc : c.ok) (hi : i.ok) (hv : i.val.length ≤ 3000) (hrd : Rd w0 R va vc c.val) (hop : c.op = 3 ∨ c.op = 5 ∨ c.op = 6 ∨ c.op = 7 ∨ c.op = 8 ∨ c.op = 9 ∨ c.op = 10 ∨ c.op = 11) : Calls Tryz.prog 32 #[.pointer (some ⟨k,0,none⟩)] w (jDl L w0 b sd (n + 1) R (jC3 sd st c en i)):=by
 have hr:=kI1 (sd:=sd) (st:=st) (en:=en) (i:=i) hop
 have H1:=(H.boxT (.cells #[.pointer (some ⟨k,0,none⟩)] 79)).boxT (.cells (rsC jAg none 0) 40)
 rw [World.size_alloc] at H1
 have d1:=jCh H1.q.1
 have d6:=jZb H1.q.1
 have d19:=jT2 H1.q.1
 change ((w.alloc (.cells #[.pointer (some ⟨k,0,none⟩)] 79)).alloc (.cells (rsC jAg none 0) 40)).cell? ⟨k,19,none⟩ = some (.int .u64 i.cas) at d19
 have k1 : ((w.alloc (.cells #[.pointer (some ⟨k,0,none⟩)] 79)).alloc (.cells (rsC jAg none 0) 40)).cell? ⟨w.heap.size,0,none⟩ = some (.pointer (some ⟨k,0,none⟩)):=jDj H1.right.right.right.left.q
 rw [← jAi] at d1 d6 d19 k1
 have hl1:=hl.imp Nat.succ_le_succ id
 have b0 : (c.op == 0) = false:=beq_eq_false_iff_ne.2 (by omega)
 have b1 : (c.op == 1) = false:=beq_eq_false_iff_ne.2 (by omega)
 have b2 : (c.op == 2) = false:=beq_eq_false_iff_ne.2 (by omega)
 have b4 : (c.op == 4) = false:=beq_eq_false_iff_ne.2 (by omega)
 have b12 : (c.op == 12) = false:=beq_eq_false_iff_ne.2 (by omega)
 have HOP:=jAa hop
 clear H hop
 by_cases ho : c.cas ≠ 0 ∧ c.cas ≠ i.cas
 ·rw [hr,if_pos ho]
  have q1 : (c.cas != 0) = true:=by simpa using ho.1
  have q2 : (c.cas != i.cas) = true:=by simpa using ho.2
  clear ho hr
  go_enter Tryz.func32,Tryz.ntmps32
  go_upto_region 15 with fail
  go_quiet (fail)
  have H2:=H1.drewN nq
  clear H1 k1 d1 d6 d19
  go_wp2_with (first
   | (go_at_call 52;refine (jBz 4 _).mono ?_;rintro e w6 ⟨rfl,hg⟩;have H7:=(H2.step hg).right.rot;clear hg H2)
   | (refine stR_ (w.heap.size + 1) (jAh 4) none 0 rfl _ _ rfl rfl rfl H7.q.1 ?_;have H8:=H7.rsRow (jAh 4) none 0))
  exact jAj rfl H8.q.1 rfl (jBt rfl rfl (H8.right.drop2.drop2.shMono (Nat.le_succ n) hl1))
 ·rw [hr,if_neg ho]
  by_cases h0 : c.cas = 0
  ·have q1 : (c.cas != 0) = false:=by rw [h0];rfl
   clear ho hr
   go_enter Tryz.func32,Tryz.ntmps32
   go_upto_region 15 with fail
   go_quiet (fail)
   have H2:=(H1.drewN nq).five
   have k2:=k1
   clear H1 d1 d6 d19
   go_wp2_with (first
    | (go_at_call 66;refine (jOm H2 hLd hn hl hen hc hi hv hrd.right.right HOP.out).mono ?_;rintro e w6 ⟨own6,rfl,H6⟩;have H7:=H6.rot;clear H6 H2 k1 k2)
    | (refine stR_ (w.heap.size + 1) (jCg sd st c en i).1 none 0 rfl _ _ rfl rfl rfl H7.q.1 ?_;have H8:=H7.rsRow (jCg sd st c en i).1 none 0))
   exact jAj rfl H8.q.1 rfl (jBt rfl (jXt _ _ _ _ _) H8.right.drop2)
  ·have q1 : (c.cas != 0) = true:=by simpa using h0
   have q2 : (c.cas != i.cas) = false:=by
    have : c.cas = i.cas:=Classical.byContradiction fun h => ho ⟨h0,h⟩
    rw [this]
    simp
   clear ho hr
   go_enter Tryz.func32,Tryz.ntmps32
   go_upto_region 15 with fail
   go_quiet (fail)
   have H2:=(H1.drewN nq).five
   have k2:=k1
   clear H1 d1 d6 d19
   go_wp2_with (first
    | (go_at_call 66;refine (jOm H2 hLd hn hl hen hc hi hv hrd.right.right HOP.out).mono ?_;rintro e w6 ⟨own6,rfl,H6⟩;have H7:=H6.rot;clear H6 H2 k1 k2)
    | (refine stR_ (w.heap.size + 1) (jCg sd st c en i).1 none 0 rfl _ _ rfl rfl rfl H7.q.1 ?_;have H8:=H7.rsRow (jCg sd st c en i).1 none 0))
   exact jAj rfl H8.q.1 rfl (jBt rfl (jXt _ _ _ _ _) H8.right.drop2)
theorem kKb (H : Law w0 w ((TnP k b c va vc en i ia ic).and ((shQ L b own sd n st).and ((jA5 0 ia ic i.val).and R)))) (hLd : jBr w0) (hn : n ≤ 4398046511104) (hl : n ≤ 900 ∨ st.slab.bud ≤ 57600) (hen : en.ok) (hc : c.ok) (hi : i.ok) (hv : i.val.length ≤ 3000) (hrd : Rd w0 R va vc c.val) (hop : 0 ≤ c.op ∧ c.op ≤ 12) : Calls Tryz.prog 32 #[.pointer (some ⟨k,0,none⟩)] w (jDl L w0 b sd (n + 1) R (jC3 sd st c en i)):=by
 by_cases h0 : c.op = 0
 ·exact kMe H hLd hn hl hen hc hi hv hrd h0
 by_cases h1 : c.op = 1
 ·exact kKi H hLd hn hl hen hc hi hv hrd h1
 by_cases h2 : c.op = 2
 ·exact kLl H hLd hn hl hen hc hi hv hrd h2
 by_cases h4 : c.op = 4
 ·exact kJi H hLd hn hl hen hc hi hv hrd h4
 by_cases h12 : c.op = 12
 ·exact kGh H hLd hn hl hen hc hi hv hrd h12
 exact jZ8 H hLd hn hl hen hc hi hv hrd (by omega)
end
end
section
set_option linter.unusedVariables false
open Go.RowKit Go.Shelf Go.Sort
variable {Sh : World → Nat → (Nat → Prop) → Nat → Nat → Hs → Prop}
section
variable {L : jA7 Sh} {w0 w : World} {k b sd n : Nat} {own : Nat → Prop} {st : Hs} {c : Cv} {va : Option Addr} {vc : Nat} {en : En} {i : Iv} {ia : Option Addr} {ic : Nat} {R : jAd}
theorem kM0 (sd : Nat) (h : Hs) (c : Cv) (en : En) : (jHr sd h c en).1.val = []:=by
 unfold jHr
 split <;> rfl
theorem kL5 (H : Law w0 w ((TnP k b c va vc en i ia ic).and ((shQ L b own sd n st).and ((jA5 0 ia ic i.val).and R)))) (hLd : jBr w0) (hn : n < 4398046511104) (hl : n ≤ 900 ∨ st.slab.bud ≤ 57600) (hen : en.ok) (hc : c.ok) (hrd : Rd w0 R va vc c.val) (hop : c.op = 3) (h0 : c.cas = 0) : Calls Tryz.prog 31 #[.pointer (some ⟨k,0,none⟩)] w (jDl L w0 b sd (n + 1) R (jAw sd st c en)):=by
 have hr : jAw sd st c en = (jBb sd st c.key c.val c.fl (atW c.exp en.now) en):=by unfold jAw;rw [if_pos hop,if_pos h0]
 have H0:=H.boxT (.cells (rsC jAg none 0) 40)
 have d1:=jCh H0.q.1
 rw [← jAi] at d1
 have hl1:=hl.imp Nat.succ_le_succ id
 have hnn:=Nat.le_of_lt hn
 rw [hr]
 clear H hr
 rw [hop] at d1
 have d6:=jZb H0.q.1
 rw [h0,← jAi] at d6
 go_enter Tryz.func31,Tryz.ntmps31
 go_wp2_with (first
  | (go_at_call 57;refine (jIq H0 hnn hl hen hc hrd.right.right).mono ?_;rintro e w3 ⟨rfl,own3,j3,ja3,jc3,H3,h3⟩;have H4:=H3.right.rot;clear h3 H3 H0)
  | (refine stR_ w.heap.size (jBb sd st c.key c.val c.fl (atW c.exp en.now) en).1 none 0 rfl _ _ rfl rfl rfl H4.q.1 ?_;have H8:=H4.rsRow (jBb sd st c.key c.val c.fl (atW c.exp en.now) en).1 none 0))
 exact jAj rfl H8.q.1 rfl (jBt rfl (jJ7 _ _ _ _ _ _ _) H8.right.drop2)
theorem kL3 (H : Law w0 w ((TnP k b c va vc en i ia ic).and ((shQ L b own sd n st).and ((jA5 0 ia ic i.val).and R)))) (hLd : jBr w0) (hn : n < 4398046511104) (hl : n ≤ 900 ∨ st.slab.bud ≤ 57600) (hen : en.ok) (hc : c.ok) (hrd : Rd w0 R va vc c.val) (hop : c.op = 3) (h0 : c.cas ≠ 0) : Calls Tryz.prog 31 #[.pointer (some ⟨k,0,none⟩)] w (jDl L w0 b sd (n + 1) R (jAw sd st c en)):=by
 have hr : jAw sd st c en = (jAh 1,st):=by unfold jAw;rw [if_pos hop,if_neg h0]
 have H0:=H.boxT (.cells (rsC jAg none 0) 40)
 have d1:=jCh H0.q.1
 rw [← jAi] at d1
 have hl1:=hl.imp Nat.succ_le_succ id
 have hnn:=Nat.le_of_lt hn
 rw [hr]
 clear H hr
 rw [hop] at d1
 have d6:=jZb H0.q.1
 rw [← jAi] at d6
 have q1 : (c.cas != 0) = true:=by simpa using h0
 go_enter Tryz.func31,Tryz.ntmps31
 go_wp2_with (first
  | (go_at_call 52;refine (jBz 1 _).mono ?_;rintro e w6 ⟨rfl,hg⟩;have H7:=(H0.step hg).right.rot;clear hg H0)
  | (refine stR_ w.heap.size (jAh 1) none 0 rfl _ _ rfl rfl rfl H7.q.1 ?_;have H8:=H7.rsRow (jAh 1) none 0))
 exact jAj rfl H8.q.1 rfl (jBt rfl rfl (H8.right.drop2.shMono (Nat.le_succ n) hl1))
theorem kLm (H : Law w0 w ((TnP k b c va vc en i ia ic).and ((shQ L b own sd n st).and ((jA5 0 ia ic i.val).and R)))) (hLd : jBr w0) (hn : n < 4398046511104) (hl : n ≤ 900 ∨ st.slab.bud ≤ 57600) (hen : en.ok) (hc : c.ok) (hrd : Rd w0 R va vc c.val) (hop : c.op = 4) : Calls Tryz.prog 31 #[.pointer (some ⟨k,0,none⟩)] w (jDl L w0 b sd (n + 1) R (jAw sd st c en)):=by
 have hr : jAw sd st c en = (jBb sd st c.key c.val c.fl (atW c.exp en.now) en):=by unfold jAw;rw [hop];rfl
 have H0:=H.boxT (.cells (rsC jAg none 0) 40)
 have d1:=jCh H0.q.1
 rw [← jAi] at d1
 have hl1:=hl.imp Nat.succ_le_succ id
 have hnn:=Nat.le_of_lt hn
 rw [hr]
 clear H hr
 rw [hop] at d1
 go_enter Tryz.func31,Tryz.ntmps31
 go_wp2_with (first
  | (go_at_call 57;refine (jIq H0 hnn hl hen hc hrd.right.right).mono ?_;rintro e w3 ⟨rfl,own3,j3,ja3,jc3,H3,h3⟩;have H4:=H3.right.rot;clear h3 H3 H0)
  | (refine stR_ w.heap.size (jBb sd st c.key c.val c.fl (atW c.exp en.now) en).1 none 0 rfl _ _ rfl rfl rfl H4.q.1 ?_;have H8:=H4.rsRow (jBb sd st c.key c.val c.fl (atW c.exp en.now) en).1 none 0))
 exact jAj rfl H8.q.1 rfl (jBt rfl (jJ7 _ _ _ _ _ _ _) H8.right.drop2)
theorem kMa (H : Law w0 w ((TnP k b c va vc en i ia ic).and ((shQ L b own sd n st).and ((jA5 0 ia ic i.val).and R)))) (hLd : jBr w0) (hn : n < 4398046511104) (hl : n ≤ 900 ∨ st.slab.bud ≤ 57600) (hen : en.ok) (hc : c.ok) (hrd : Rd w0 R va vc c.val) (hop : c.op = 5) : Calls Tryz.prog 31 #[.pointer (some ⟨k,0,none⟩)] w (jDl L w0 b sd (n + 1) R (jAw sd st c en)):=by
 have hr : jAw sd st c en = (jAh 3,st):=by unfold jAw;rw [hop];rfl
 have H0:=H.boxT (.cells (rsC jAg none 0) 40)
 have d1:=jCh H0.q.1
 rw [← jAi] at d1
 have hl1:=hl.imp Nat.succ_le_succ id
 have hnn:=Nat.le_of_lt hn
 rw [hr]
 clear H hr
 rw [hop] at d1
 go_enter Tryz.func31,Tryz.ntmps31
 go_wp2_with (first
  | (go_at_call 52;refine (jBz 3 _).mono ?_;rintro e w6 ⟨rfl,hg⟩;have H7:=(H0.step hg).right.rot;clear hg H0)
  | (refine stR_ w.heap.size (jAh 3) none 0 rfl _ _ rfl rfl rfl H7.q.1 ?_;have H8:=H7.rsRow (jAh 3) none 0))
 exact jAj rfl H8.q.1 rfl (jBt rfl rfl (H8.right.drop2.shMono (Nat.le_succ n) hl1))
theorem kL9 (H : Law w0 w ((TnP k b c va vc en i ia ic).and ((shQ L b own sd n st).and ((jA5 0 ia ic i.val).and R)))) (hLd : jBr w0) (hn : n < 4398046511104) (hl : n ≤ 900 ∨ st.slab.bud ≤ 57600) (hen : en.ok) (hc : c.ok) (hrd : Rd w0 R va vc c.val) (hop : c.op = 6) : Calls Tryz.prog 31 #[.pointer (some ⟨k,0,none⟩)] w (jDl L w0 b sd (n + 1) R (jAw sd st c en)):=by
 have hr : jAw sd st c en = (jAh 3,st):=by unfold jAw;rw [hop];rfl
 have H0:=H.boxT (.cells (rsC jAg none 0) 40)
 have d1:=jCh H0.q.1
 rw [← jAi] at d1
 have hl1:=hl.imp Nat.succ_le_succ id
 have hnn:=Nat.le_of_lt hn
 rw [hr]
 clear H hr
 rw [hop] at d1
 go_enter Tryz.func31,Tryz.ntmps31
 go_wp2_with (first
  | (go_at_call 52;refine (jBz 3 _).mono ?_;rintro e w6 ⟨rfl,hg⟩;have H7:=(H0.step hg).right.rot;clear hg H0)
  | (refine stR_ w.heap.size (jAh 3) none 0 rfl _ _ rfl rfl rfl H7.q.1 ?_;have H8:=H7.rsRow (jAh 3) none 0))
 exact jAj rfl H8.q.1 rfl (jBt rfl rfl (H8.right.drop2.shMono (Nat.le_succ n) hl1))
theorem kJb (H : Law w0 w ((TnP k b c va vc en i ia ic).and ((shQ L b own sd n st).and ((jA5 0 ia ic i.val).and R)))) (hLd : jBr w0) (hn : n < 4398046511104) (hl : n ≤ 900 ∨ st.slab.bud ≤ 57600) (hen : en.ok) (hc : c.ok) (hrd : Rd w0 R va vc c.val) (hop : c.op = 7) : Calls Tryz.prog 31 #[.pointer (some ⟨k,0,none⟩)] w (jDl L w0 b sd (n + 1) R (jAw sd st c en)):=by
 have hr : jAw sd st c en = (jAh 3,st):=by unfold jAw;rw [hop];rfl
 have H0:=H.boxT (.cells (rsC jAg none 0) 40)
 have d1:=jCh H0.q.1
 rw [← jAi] at d1
 have hl1:=hl.imp Nat.succ_le_succ id
 have hnn:=Nat.le_of_lt hn
 rw [hr]
 clear H hr
 rw [hop] at d1
 go_enter Tryz.func31,Tryz.ntmps31
 go_wp2_with (first
  | (go_at_call 52;refine (jBz 3 _).mono ?_;rintro e w6 ⟨rfl,hg⟩;have H7:=(H0.step hg).right.rot;clear hg H0)
  | (refine stR_ w.heap.size (jAh 3) none 0 rfl _ _ rfl rfl rfl H7.q.1 ?_;have H8:=H7.rsRow (jAh 3) none 0))
 exact jAj rfl H8.q.1 rfl (jBt rfl rfl (H8.right.drop2.shMono (Nat.le_succ n) hl1))
theorem kGf (H : Law w0 w ((TnP k b c va vc en i ia ic).and ((shQ L b own sd n st).and ((jA5 0 ia ic i.val).and R)))) (hLd : jBr w0) (hn : n < 4398046511104) (hl : n ≤ 900 ∨ st.slab.bud ≤ 57600) (hen : en.ok) (hc : c.ok) (hrd : Rd w0 R va vc c.val) (hop : c.op = 10) (hm : c.makes = true) (x : Nat) (hx : c.ini = (x : Int)) : Calls Tryz.prog 31 #[.pointer (some ⟨k,0,none⟩)] w (jDl L w0 b sd (n + 1) R (jAw sd st c en)):=by
 have hr : jAw sd st c en = (jBc (jBb sd st c.key (jCz (x : Int)) 0 (atW c.exp en.now) en) x):=by unfold jAw;rw [hop,hm,hx];rfl
 have H0:=H.boxT (.cells (rsC jAg none 0) 40)
 have d1:=jCh H0.q.1
 rw [← jAi] at d1
 have hl1:=hl.imp Nat.succ_le_succ id
 have hnn:=Nat.le_of_lt hn
 rw [hr]
 clear H hr
 rw [hop] at d1
 have d9:=jKf H0.q.1
 rw [hm,← jAi] at d9
 have hxb : x < 18446744073709551616:=by have:=hc.ini;unfold U64 at this;omega
 have hxe:=jCm hc.exp hen.now
 go_enter Tryz.func31,Tryz.ntmps31
 go_upto_region 15 with fail
 rw [jAi]
 generalize w.alloc (.cells (rsC jAg none 0) 40) = W at *
 have d8:=kF7 H0.q.1
 rw [hx] at d8
 have HN:=jAa (fun m => jIc (w:=W.drewN m) (H0.drewN m).q.1)
 have HH:=jAa H0
 clear H0 d1 d9
 refine jB7 8 (by kernel_rfl) (by simp) (by kernel_rfl) ?_
 simp only [List.take_succ_cons,List.take_zero,List.drop_succ_cons,List.drop_zero]
 repeat (quiet_step (exact Calls.quiet_of (HN.out _)))
 refine wpQuiet_nil ?_
 intro _ hw'
 obtain ⟨nq,rfl⟩:=hw'
 have H1:=HH.out.drewN nq
 clear HH HN d8
 generalize W.drewN nq = X at *
 go_wp2_with (first
  | (go_at_call 58;refine (jHh H1 hLd hnn hl hen x hxb 0 (atW c.exp en.now) hc.key hxe).mono ?_;rintro e w3 ⟨own3,rfl,H3⟩;have H4:=H3.rot;clear H3 H1)
  | (refine stR_ w.heap.size (jBc (jBb sd st c.key (jCz (x : Int)) 0 (atW c.exp en.now) en) x).1 none 0 rfl _ _ rfl rfl rfl H4.q.1 ?_;have H8:=H4.rsRow (jBc (jBb sd st c.key (jCz (x : Int)) 0 (atW c.exp en.now) en) x).1 none 0))
 exact jAj rfl H8.q.1 rfl (jBt rfl (jOe _ _ (jJ7 _ _ _ _ _ _ _)) H8.right.drop2)
theorem kEz (H : Law w0 w ((TnP k b c va vc en i ia ic).and ((shQ L b own sd n st).and ((jA5 0 ia ic i.val).and R)))) (hLd : jBr w0) (hn : n < 4398046511104) (hl : n ≤ 900 ∨ st.slab.bud ≤ 57600) (hen : en.ok) (hc : c.ok) (hrd : Rd w0 R va vc c.val) (hop : c.op = 10) (hm : c.makes = false) : Calls Tryz.prog 31 #[.pointer (some ⟨k,0,none⟩)] w (jDl L w0 b sd (n + 1) R (jAw sd st c en)):=by
 have hr : jAw sd st c en = (jAh 1,st):=by unfold jAw;rw [hop,hm];rfl
 have H0:=H.boxT (.cells (rsC jAg none 0) 40)
 have d1:=jCh H0.q.1
 rw [← jAi] at d1
 have hl1:=hl.imp Nat.succ_le_succ id
 have hnn:=Nat.le_of_lt hn
 rw [hr]
 clear H hr
 rw [hop] at d1
 have d9:=jKf H0.q.1
 rw [hm,← jAi] at d9
 go_enter Tryz.func31,Tryz.ntmps31
 go_wp2_with (first
  | (go_at_call 52;refine (jBz 1 _).mono ?_;rintro e w6 ⟨rfl,hg⟩;have H7:=(H0.step hg).right.rot;clear hg H0)
  | (refine stR_ w.heap.size (jAh 1) none 0 rfl _ _ rfl rfl rfl H7.q.1 ?_;have H8:=H7.rsRow (jAh 1) none 0))
 exact jAj rfl H8.q.1 rfl (jBt rfl rfl (H8.right.drop2.shMono (Nat.le_succ n) hl1))
theorem kIe (H : Law w0 w ((TnP k b c va vc en i ia ic).and ((shQ L b own sd n st).and ((jA5 0 ia ic i.val).and R)))) (hLd : jBr w0) (hn : n < 4398046511104) (hl : n ≤ 900 ∨ st.slab.bud ≤ 57600) (hen : en.ok) (hc : c.ok) (hrd : Rd w0 R va vc c.val) (hop : c.op = 11) (hm : c.makes = true) (x : Nat) (hx : c.ini = (x : Int)) : Calls Tryz.prog 31 #[.pointer (some ⟨k,0,none⟩)] w (jDl L w0 b sd (n + 1) R (jAw sd st c en)):=by
 have hr : jAw sd st c en = (jBc (jBb sd st c.key (jCz (x : Int)) 0 (atW c.exp en.now) en) x):=by unfold jAw;rw [hop,hm,hx];rfl
 have H0:=H.boxT (.cells (rsC jAg none 0) 40)
 have d1:=jCh H0.q.1
 rw [← jAi] at d1
 have hl1:=hl.imp Nat.succ_le_succ id
 have hnn:=Nat.le_of_lt hn
 rw [hr]
 clear H hr
 rw [hop] at d1
 have d9:=jKf H0.q.1
 rw [hm,← jAi] at d9
 have hxb : x < 18446744073709551616:=by have:=hc.ini;unfold U64 at this;omega
 have hxe:=jCm hc.exp hen.now
 go_enter Tryz.func31,Tryz.ntmps31
 go_upto_region 15 with fail
 rw [jAi]
 generalize w.alloc (.cells (rsC jAg none 0) 40) = W at *
 have d8:=kF7 H0.q.1
 rw [hx] at d8
 have HN:=jAa (fun m => jIc (w:=W.drewN m) (H0.drewN m).q.1)
 have HH:=jAa H0
 clear H0 d1 d9
 refine jB7 8 (by kernel_rfl) (by simp) (by kernel_rfl) ?_
 simp only [List.take_succ_cons,List.take_zero,List.drop_succ_cons,List.drop_zero]
 repeat (quiet_step (exact Calls.quiet_of (HN.out _)))
 refine wpQuiet_nil ?_
 intro _ hw'
 obtain ⟨nq,rfl⟩:=hw'
 have H1:=HH.out.drewN nq
 clear HH HN d8
 generalize W.drewN nq = X at *
 go_wp2_with (first
  | (go_at_call 58;refine (jHh H1 hLd hnn hl hen x hxb 0 (atW c.exp en.now) hc.key hxe).mono ?_;rintro e w3 ⟨own3,rfl,H3⟩;have H4:=H3.rot;clear H3 H1)
  | (refine stR_ w.heap.size (jBc (jBb sd st c.key (jCz (x : Int)) 0 (atW c.exp en.now) en) x).1 none 0 rfl _ _ rfl rfl rfl H4.q.1 ?_;have H8:=H4.rsRow (jBc (jBb sd st c.key (jCz (x : Int)) 0 (atW c.exp en.now) en) x).1 none 0))
 exact jAj rfl H8.q.1 rfl (jBt rfl (jOe _ _ (jJ7 _ _ _ _ _ _ _)) H8.right.drop2)
theorem kIi (H : Law w0 w ((TnP k b c va vc en i ia ic).and ((shQ L b own sd n st).and ((jA5 0 ia ic i.val).and R)))) (hLd : jBr w0) (hn : n < 4398046511104) (hl : n ≤ 900 ∨ st.slab.bud ≤ 57600) (hen : en.ok) (hc : c.ok) (hrd : Rd w0 R va vc c.val) (hop : c.op = 11) (hm : c.makes = false) : Calls Tryz.prog 31 #[.pointer (some ⟨k,0,none⟩)] w (jDl L w0 b sd (n + 1) R (jAw sd st c en)):=by
 have hr : jAw sd st c en = (jAh 1,st):=by unfold jAw;rw [hop,hm];rfl
 have H0:=H.boxT (.cells (rsC jAg none 0) 40)
 have d1:=jCh H0.q.1
 rw [← jAi] at d1
 have hl1:=hl.imp Nat.succ_le_succ id
 have hnn:=Nat.le_of_lt hn
 rw [hr]
 clear H hr
 rw [hop] at d1
 have d9:=jKf H0.q.1
 rw [hm,← jAi] at d9
 go_enter Tryz.func31,Tryz.ntmps31
 go_wp2_with (first
  | (go_at_call 52;refine (jBz 1 _).mono ?_;rintro e w6 ⟨rfl,hg⟩;have H7:=(H0.step hg).right.rot;clear hg H0)
  | (refine stR_ w.heap.size (jAh 1) none 0 rfl _ _ rfl rfl rfl H7.q.1 ?_;have H8:=H7.rsRow (jAh 1) none 0))
 exact jAj rfl H8.q.1 rfl (jBt rfl rfl (H8.right.drop2.shMono (Nat.le_succ n) hl1))
theorem kEj (H : Law w0 w ((TnP k b c va vc en i ia ic).and ((shQ L b own sd n st).and ((jA5 0 ia ic i.val).and R)))) (hLd : jBr w0) (hn : n < 4398046511104) (hl : n ≤ 900 ∨ st.slab.bud ≤ 57600) (hen : en.ok) (hc : c.ok) (hrd : Rd w0 R va vc c.val) (hop : c.op = 12) (hm : c.makes = true) : Calls Tryz.prog 31 #[.pointer (some ⟨k,0,none⟩)] w (jDl L w0 b sd (n + 1) R (jAw sd st c en)):=by
 have hr : jAw sd st c en = (jHr sd st c en):=by unfold jAw;rw [hop,hm];rfl
 have H0:=H.boxT (.cells (rsC jAg none 0) 40)
 have d1:=jCh H0.q.1
 rw [← jAi] at d1
 have hl1:=hl.imp Nat.succ_le_succ id
 have hnn:=Nat.le_of_lt hn
 rw [hr]
 clear H hr
 rw [hop] at d1
 have d9:=jKf H0.q.1
 rw [hm,← jAi] at d9
 go_enter Tryz.func31,Tryz.ntmps31
 go_wp2_with (first
  | (go_at_call 60;refine (kAt H0 hn hl hen hc).mono ?_;rintro e w3 ⟨own3,rfl,H3⟩;have H4:=H3.rot;clear H3 H0)
  | (refine stR_ w.heap.size (jHr sd st c en).1 none 0 rfl _ _ rfl rfl rfl H4.q.1 ?_;have H8:=H4.rsRow (jHr sd st c en).1 none 0))
 exact jAj rfl H8.q.1 rfl (jBt rfl (kM0 _ _ _ _) H8.right.drop2)
theorem kFy (H : Law w0 w ((TnP k b c va vc en i ia ic).and ((shQ L b own sd n st).and ((jA5 0 ia ic i.val).and R)))) (hLd : jBr w0) (hn : n < 4398046511104) (hl : n ≤ 900 ∨ st.slab.bud ≤ 57600) (hen : en.ok) (hc : c.ok) (hrd : Rd w0 R va vc c.val) (hop : c.op = 12) (hm : c.makes = false) : Calls Tryz.prog 31 #[.pointer (some ⟨k,0,none⟩)] w (jDl L w0 b sd (n + 1) R (jAw sd st c en)):=by
 have hr : jAw sd st c en = (jAh 1,st):=by unfold jAw;rw [hop,hm];rfl
 have H0:=H.boxT (.cells (rsC jAg none 0) 40)
 have d1:=jCh H0.q.1
 rw [← jAi] at d1
 have hl1:=hl.imp Nat.succ_le_succ id
 have hnn:=Nat.le_of_lt hn
 rw [hr]
 clear H hr
 rw [hop] at d1
 have d9:=jKf H0.q.1
 rw [hm,← jAi] at d9
 go_enter Tryz.func31,Tryz.ntmps31
 go_wp2_with (first
  | (go_at_call 52;refine (jBz 1 _).mono ?_;rintro e w6 ⟨rfl,hg⟩;have H7:=(H0.step hg).right.rot;clear hg H0)
  | (refine stR_ w.heap.size (jAh 1) none 0 rfl _ _ rfl rfl rfl H7.q.1 ?_;have H8:=H7.rsRow (jAh 1) none 0))
 exact jAj rfl H8.q.1 rfl (jBt rfl rfl (H8.right.drop2.shMono (Nat.le_succ n) hl1))
theorem kLr (H : Law w0 w ((TnP k b c va vc en i ia ic).and ((shQ L b own sd n st).and ((jA5 0 ia ic i.val).and R)))) (hLd : jBr w0) (hn : n < 4398046511104) (hl : n ≤ 900 ∨ st.slab.bud ≤ 57600) (hen : en.ok) (hc : c.ok) (hrd : Rd w0 R va vc c.val) (hop : c.op = 0) : Calls Tryz.prog 31 #[.pointer (some ⟨k,0,none⟩)] w (jDl L w0 b sd (n + 1) R (jAw sd st c en)):=by
 have hr : jAw sd st c en = (jAh 1,st):=by unfold jAw;rw [hop];rfl
 have H0:=H.boxT (.cells (rsC jAg none 0) 40)
 have d1:=jCh H0.q.1
 rw [← jAi] at d1
 have hl1:=hl.imp Nat.succ_le_succ id
 have hnn:=Nat.le_of_lt hn
 rw [hr]
 clear H hr
 rw [hop] at d1
 go_enter Tryz.func31,Tryz.ntmps31
 go_wp2_with (first
  | (go_at_call 52;refine (jBz 1 _).mono ?_;rintro e w6 ⟨rfl,hg⟩;have H7:=(H0.step hg).right.rot;clear hg H0)
  | (refine stR_ w.heap.size (jAh 1) none 0 rfl _ _ rfl rfl rfl H7.q.1 ?_;have H8:=H7.rsRow (jAh 1) none 0))
 exact jAj rfl H8.q.1 rfl (jBt rfl rfl (H8.right.drop2.shMono (Nat.le_succ n) hl1))
theorem kJp (H : Law w0 w ((TnP k b c va vc en i ia ic).and ((shQ L b own sd n st).and ((jA5 0 ia ic i.val).and R)))) (hLd : jBr w0) (hn : n < 4398046511104) (hl : n ≤ 900 ∨ st.slab.bud ≤ 57600) (hen : en.ok) (hc : c.ok) (hrd : Rd w0 R va vc c.val) (hop : c.op = 1) : Calls Tryz.prog 31 #[.pointer (some ⟨k,0,none⟩)] w (jDl L w0 b sd (n + 1) R (jAw sd st c en)):=by
 have hr : jAw sd st c en = (jAh 1,st):=by unfold jAw;rw [hop];rfl
 have H0:=H.boxT (.cells (rsC jAg none 0) 40)
 have d1:=jCh H0.q.1
 rw [← jAi] at d1
 have hl1:=hl.imp Nat.succ_le_succ id
 have hnn:=Nat.le_of_lt hn
 rw [hr]
 clear H hr
 rw [hop] at d1
 go_enter Tryz.func31,Tryz.ntmps31
 go_wp2_with (first
  | (go_at_call 52;refine (jBz 1 _).mono ?_;rintro e w6 ⟨rfl,hg⟩;have H7:=(H0.step hg).right.rot;clear hg H0)
  | (refine stR_ w.heap.size (jAh 1) none 0 rfl _ _ rfl rfl rfl H7.q.1 ?_;have H8:=H7.rsRow (jAh 1) none 0))
 exact jAj rfl H8.q.1 rfl (jBt rfl rfl (H8.right.drop2.shMono (Nat.le_succ n) hl1))
theorem kLx (H : Law w0 w ((TnP k b c va vc en i ia ic).and ((shQ L b own sd n st).and ((jA5 0 ia ic i.val).and R)))) (hLd : jBr w0) (hn : n < 4398046511104) (hl : n ≤ 900 ∨ st.slab.bud ≤ 57600) (hen : en.ok) (hc : c.ok) (hrd : Rd w0 R va vc c.val) (hop : c.op = 2) : Calls Tryz.prog 31 #[.pointer (some ⟨k,0,none⟩)] w (jDl L w0 b sd (n + 1) R (jAw sd st c en)):=by
 have hr : jAw sd st c en = (jAh 1,st):=by unfold jAw;rw [hop];rfl
 have H0:=H.boxT (.cells (rsC jAg none 0) 40)
 have d1:=jCh H0.q.1
 rw [← jAi] at d1
 have hl1:=hl.imp Nat.succ_le_succ id
 have hnn:=Nat.le_of_lt hn
 rw [hr]
 clear H hr
 rw [hop] at d1
 go_enter Tryz.func31,Tryz.ntmps31
 go_wp2_with (first
  | (go_at_call 52;refine (jBz 1 _).mono ?_;rintro e w6 ⟨rfl,hg⟩;have H7:=(H0.step hg).right.rot;clear hg H0)
  | (refine stR_ w.heap.size (jAh 1) none 0 rfl _ _ rfl rfl rfl H7.q.1 ?_;have H8:=H7.rsRow (jAh 1) none 0))
 exact jAj rfl H8.q.1 rfl (jBt rfl rfl (H8.right.drop2.shMono (Nat.le_succ n) hl1))
theorem kIv (H : Law w0 w ((TnP k b c va vc en i ia ic).and ((shQ L b own sd n st).and ((jA5 0 ia ic i.val).and R)))) (hLd : jBr w0) (hn : n < 4398046511104) (hl : n ≤ 900 ∨ st.slab.bud ≤ 57600) (hen : en.ok) (hc : c.ok) (hrd : Rd w0 R va vc c.val) (hop : c.op = 8) : Calls Tryz.prog 31 #[.pointer (some ⟨k,0,none⟩)] w (jDl L w0 b sd (n + 1) R (jAw sd st c en)):=by
 have hr : jAw sd st c en = (jAh 1,st):=by unfold jAw;rw [hop];rfl
 have H0:=H.boxT (.cells (rsC jAg none 0) 40)
 have d1:=jCh H0.q.1
 rw [← jAi] at d1
 have hl1:=hl.imp Nat.succ_le_succ id
 have hnn:=Nat.le_of_lt hn
 rw [hr]
 clear H hr
 rw [hop] at d1
 go_enter Tryz.func31,Tryz.ntmps31
 go_wp2_with (first
  | (go_at_call 52;refine (jBz 1 _).mono ?_;rintro e w6 ⟨rfl,hg⟩;have H7:=(H0.step hg).right.rot;clear hg H0)
  | (refine stR_ w.heap.size (jAh 1) none 0 rfl _ _ rfl rfl rfl H7.q.1 ?_;have H8:=H7.rsRow (jAh 1) none 0))
 exact jAj rfl H8.q.1 rfl (jBt rfl rfl (H8.right.drop2.shMono (Nat.le_succ n) hl1))
theorem kL0 (H : Law w0 w ((TnP k b c va vc en i ia ic).and ((shQ L b own sd n st).and ((jA5 0 ia ic i.val).and R)))) (hLd : jBr w0) (hn : n < 4398046511104) (hl : n ≤ 900 ∨ st.slab.bud ≤ 57600) (hen : en.ok) (hc : c.ok) (hrd : Rd w0 R va vc c.val) (hop : c.op = 9) : Calls Tryz.prog 31 #[.pointer (some ⟨k,0,none⟩)] w (jDl L w0 b sd (n + 1) R (jAw sd st c en)):=by
 have hr : jAw sd st c en = (jAh 1,st):=by unfold jAw;rw [hop];rfl
 have H0:=H.boxT (.cells (rsC jAg none 0) 40)
 have d1:=jCh H0.q.1
 rw [← jAi] at d1
 have hl1:=hl.imp Nat.succ_le_succ id
 have hnn:=Nat.le_of_lt hn
 rw [hr]
 clear H hr
 rw [hop] at d1
 go_enter Tryz.func31,Tryz.ntmps31
 go_wp2_with (first
  | (go_at_call 52;refine (jBz 1 _).mono ?_;rintro e w6 ⟨rfl,hg⟩;have H7:=(H0.step hg).right.rot;clear hg H0)
  | (refine stR_ w.heap.size (jAh 1) none 0 rfl _ _ rfl rfl rfl H7.q.1 ?_;have H8:=H7.rsRow (jAh 1) none 0))
 exact jAj rfl H8.q.1 rfl (jBt rfl rfl (H8.right.drop2.shMono (Nat.le_succ n) hl1))
theorem jV9 (H : Law w0 w ((TnP k b c va vc en i ia ic).and ((shQ L b own sd n st).and ((jA5 0 ia ic i.val).and R)))) (hLd : jBr w0) (hn : n < 4398046511104) (hl : n ≤ 900 ∨ st.slab.bud ≤ 57600) (hen : en.ok) (hc : c.ok) (hrd : Rd w0 R va vc c.val) (hop : 0 ≤ c.op ∧ c.op ≤ 12) : Calls Tryz.prog 31 #[.pointer (some ⟨k,0,none⟩)] w (jDl L w0 b sd (n + 1) R (jAw sd st c en)):=by
 have hcase : c.op = 0 ∨ c.op = 1 ∨ c.op = 2 ∨ c.op = 3 ∨ c.op = 4 ∨ c.op = 5 ∨ c.op = 6 ∨ c.op = 7 ∨ c.op = 8 ∨ c.op = 9 ∨ c.op = 10 ∨ c.op = 11 ∨ c.op = 12:=by omega
 obtain ⟨x,hx⟩:=Int.eq_ofNat_of_zero_le hc.ini.1
 rcases hcase with h | h | h | h | h | h | h | h | h | h | h | h | h
 ·exact kLr H hLd hn hl hen hc hrd h
 ·exact kJp H hLd hn hl hen hc hrd h
 ·exact kLx H hLd hn hl hen hc hrd h
 ·by_cases h0 : c.cas = 0
  ·exact kL5 H hLd hn hl hen hc hrd h h0
  ·exact kL3 H hLd hn hl hen hc hrd h h0
 ·exact kLm H hLd hn hl hen hc hrd h
 ·exact kMa H hLd hn hl hen hc hrd h
 ·exact kL9 H hLd hn hl hen hc hrd h
 ·exact kJb H hLd hn hl hen hc hrd h
 ·exact kIv H hLd hn hl hen hc hrd h
 ·exact kL0 H hLd hn hl hen hc hrd h
 ·cases hm : c.makes
  ·exact kEz H hLd hn hl hen hc hrd h hm
  ·exact kGf H hLd hn hl hen hc hrd h hm x hx
 ·cases hm : c.makes
  ·exact kIi H hLd hn hl hen hc hrd h hm
  ·exact kIe H hLd hn hl hen hc hrd h hm x hx
 ·cases hm : c.makes
  ·exact kFy H hLd hn hl hen hc hrd h hm
  ·exact kEj H hLd hn hl hen hc hrd h hm
end
end
section
set_option linter.unusedVariables false
open Go.RowKit Go.Shelf Go.Sort
variable {Sh : World → Nat → (Nat → Prop) → Nat → Nat → Hs → Prop}
theorem jI6 (op : Int) (w : World) : Calls Tryz.prog 13 #[.int .i64 op] w fun e w' => e = .returned (.bool (jCc op)) ∧ w' = w:=by
 by_cases h0 : 0 ≤ op
 ·by_cases h1 : op ≤ 12
  ·have HK : Hid (jCc op = true):=decide_eq_true ⟨h0,h1⟩
   go_enter Tryz.func13,Tryz.ntmps13
   go_wp2
   go_ret
   exact ⟨by rw [HK.out];simp,rfl⟩
  ·have HK : Hid (jCc op = false):=decide_eq_false (by omega)
   have h1' : (12 : Int) < op:=by omega
   go_enter Tryz.func13,Tryz.ntmps13
   go_wp2
   go_ret
   exact ⟨by rw [HK.out];simp,rfl⟩
 ·have HK : Hid (jCc op = false):=decide_eq_false (by omega)
  have h0' : op < 0:=by omega
  go_enter Tryz.func13,Tryz.ntmps13
  go_wp2
  go_ret
  exact ⟨by rw [HK.out];simp,rfl⟩
theorem jTx (op : Int) (w : World) : Calls Tryz.prog 28 #[.int .i64 op] w fun e w' => e = .returned (.agg (rsC (if op = 15 then jAh 11 else jAh 10) none 0)) ∧ w.grownBy w' none:=by
 have H0:=(Law.start w).box (.cells (rsC jAg none 0) 40)
 by_cases h : op = 15
 ·subst h
  rw [if_pos rfl]
  go_enter Tryz.func28,Tryz.ntmps28
  go_wp2_with (first
   | (go_at_call 52;refine (jBz 11 _).mono ?_;rintro e w6 ⟨rfl,hg⟩;have H7:=H0.step hg;clear hg H0)
   | (refine stR_ w.heap.size (jAh 11) none 0 rfl _ _ rfl rfl rfl H7.q.1 ?_;have H8:=H7.rsRow (jAh 11) none 0))
  exact jAj rfl H8.q.1 rfl ⟨rfl,jB9 H8.below⟩
 ·rw [if_neg h]
  have hb:=beq_eq_false_iff_ne.2 h
  clear h
  go_enter Tryz.func28,Tryz.ntmps28
  go_wp2_with (first
   | (go_at_call 52;refine (jBz 10 _).mono ?_;rintro e w6 ⟨rfl,hg⟩;have H7:=H0.step hg;clear hg H0)
   | (refine stR_ w.heap.size (jAh 10) none 0 rfl _ _ rfl rfl rfl H7.q.1 ?_;have H8:=H7.rsRow (jAh 10) none 0))
  exact jAj rfl H8.q.1 rfl ⟨rfl,jB9 H8.below⟩
section
variable {L : jA7 Sh} {w0 w : World} {k b sd n : Nat} {own : Nat → Prop} {st : Hs} {c : Cv} {va : Option Addr} {vc : Nat} {en : En} {R : jAd}
theorem jAf {g : Nat} {t : TypeId} (h : w.heap[g]? = some (.cells (cmC c va vc) t (0,0))) : w.cell? ⟨g,0,none⟩ = some (.int .i64 c.op) ∧ w.cell? ⟨g,1,none⟩ = some (.string c.key) ∧ w.cell? ⟨g,2,none⟩ = some (.slice va c.val.length vc) ∧ w.cell? ⟨g,3,none⟩ = some (.int .u32 c.fl) ∧ w.cell? ⟨g,4,none⟩ = some (.int .i64 c.exp) ∧ w.cell? ⟨g,5,none⟩ = some (.int .u64 c.cas) ∧ w.cell? ⟨g,6,none⟩ = some (.int .u64 c.del) ∧ w.cell? ⟨g,7,none⟩ = some (.int .u64 c.ini) ∧ w.cell? ⟨g,8,none⟩ = some (.bool c.makes) ∧ w.cell? ⟨g,9,none⟩ = some (.bool c.sets):=by
 simp [World.cell?,h,cmC]
abbrev CmP (g : Nat) (c : Cv) (va : Option Addr) (vc : Nat) : jAd:=jAn g (.cells (cmC c va vc) 33)
abbrev EnP (g : Nat) (en : En) : jAd:=jAn g (.cells (enC en) 35)
theorem kIb (H : Law w0 w ((shQ L b own sd n st).and R)) (hl : n ≤ 900 ∨ st.slab.bud ≤ 57600) (hk : jCc c.op = false) :
  Calls Tryz.prog 10 #[.pointer (some ⟨b,0,none⟩),.agg (cmC c va vc),.agg (enC en)] w (jDl L w0 b sd (n + 1) R (doH sd st c en)):=by
 have hr : doH sd st c en = ((if c.op = 15 then jAh 11 else jAh 10),st):=by
  unfold doH
  split
  ·rfl
  ·rw [if_neg (by rw [hk];exact Bool.false_ne_true)]
 have hv : (if c.op = 15 then jAh 11 else jAh 10 : Rv).val = []:=by split <;> rfl
 have HWK:=jAa (fun W => jTx c.op W)
 obtain ⟨r,hr0⟩ : ∃ r,(if c.op = 15 then jAh 11 else jAh 10 : Rv) = r:=⟨_,rfl⟩
 rw [hr0] at hr hv HWK
 clear hr0
 rw [hr]
 have H1:=((H.box (.cells (cmC c va vc) 33)).box (.cells (enC en) 35)).box (.cells (rsC jAg none 0) 40)
 rw [World.size_alloc,World.size_alloc] at H1
 have HK:=jAa (fun W => jI6 c.op W)
 rw [hk] at HK
 have d0:=(jAf H1.right.right.q.1).1
 have hl1:=hl.imp Nat.succ_le_succ id
 clear H hr
 go_enter Tryz.func10,Tryz.ntmps10
 go_upto_region 1 with fail
 rw [jAi]
 generalize ((w.alloc (.cells (cmC c va vc) 33)).alloc (.cells (enC en) 35)).alloc (.cells (rsC jAg none 0) 40) = W at *
 go_wp2_with (first
  | (go_at_call 13;refine (HK.out _).mono ?_;rintro e w1 ⟨rfl,rfl⟩)
  | (go_at_call 28;refine (HWK.out _).mono ?_;rintro e w6 ⟨rfl,hg⟩;have H7:=H1.step hg;clear hg H1)
  | (refine stR_ (w.heap.size + 1 + 1) r none 0 rfl _ _ rfl rfl rfl H7.q.1 ?_;have H8:=H7.rsRow r none 0))
 exact jAj rfl H8.q.1 rfl (jBt rfl hv (H8.right.right.right.shMono (Nat.le_succ n) hl1))
theorem kG0 (H : Law w0 w ((shQ L b own sd n st).and R)) (hn : n ≤ 4398046511104) (s : ByteArray) (hs : s.size ≤ 140737488351232) (en : En) (hen : en.ok) (hy : jAp st s en = none) :
  Calls Tryz.prog 29 #[.pointer (some ⟨b,0,none⟩),.string s,.agg (enC en)] w fun e w' => e = .returned (.tuple #[.agg (itC jBw),.bool false]) ∧ ∃ own',Law w0 w' ((shQ L b own' sd n (jAy st s en)).and R):=by
 refine (jUr L H hn s hs en hen).mono ?_
 rintro e w' (⟨h1,h2,own',N⟩ | ⟨y,a,c,h1,_⟩)
 ·exact ⟨h2,own',N.drop2⟩
 ·rw [h1] at hy
  cases hy
theorem kDf (H : Law w0 w ((shQ L b own sd n st).and R)) (hn : n ≤ 4398046511104) (s : ByteArray) (hs : s.size ≤ 140737488351232) (en : En) (hen : en.ok) (y : Ent) (hy : jAp st s en = some y) :
  Calls Tryz.prog 29 #[.pointer (some ⟨b,0,none⟩),.string s,.agg (enC en)] w fun e w' => ∃ a c,e = .returned (.tuple #[.agg (itC (jAe y.1 a c)),.bool true]) ∧ ∃ own',Law w0 w' ((shQ L b own' sd n (jAy st s en)).and ((jA5 0 a c y.1.val).and R)):=by
 refine (jUr L H hn s hs en hen).mono ?_
 rintro e w' (⟨h1,_⟩ | ⟨y',a,c,h1,h2,own',N⟩)
 ·rw [h1] at hy
  cases hy
 ·rw [h1] at hy
  cases hy
  exact ⟨a,c,h2,own',N⟩
def kNm : Iv:=⟨⟨#[]⟩,[],0,0,0,0,0,false,false,false⟩
theorem jFh (sd : Nat) (h : Hs) (k : ByteArray) (en : En) : (jCy sd h k en).slab.bud = h.slab.bud:=jGq.2.1
theorem kEd (H : Law w0 w ((shQ L b own sd n st).and R)) (hLd : jBr w0) (hn : n < 4398046511104) (hl : n ≤ 900 ∨ st.slab.bud ≤ 57600) (hen : en.ok) (hc : c.ok) (hrd : Rd w0 R va vc c.val) (hk : jCc c.op = true) (hlv : jAp st c.key en = none) :
  Calls Tryz.prog 10 #[.pointer (some ⟨b,0,none⟩),.agg (cmC c va vc),.agg (enC en)] w (jDl L w0 b sd (n + 1) R (doH sd st c en)):=by
 have hop:=of_decide_eq_true hk
 have hr : doH sd st c en = jAw sd (jCy sd st c.key en) c en:=by
  unfold doH
  rw [if_neg (by omega),if_pos hk,hlv]
 rw [hr]
 obtain ⟨T,hT⟩ : ∃ T,jCy sd st c.key en = T:=⟨_,rfl⟩
 have hTU : jGt sd (jAy st c.key en) c.key = T:=hT
 have hlT : n ≤ 900 ∨ T.slab.bud ≤ 57600:=by rw [← hT,jFh];exact hl
 rw [hT]
 have H0:=((H.box (.cells (cmC c va vc) 33)).box (.cells (enC en) 35)).box (.cells (rsC jAg none 0) 40)
 rw [World.size_alloc,World.size_alloc] at H0
 have HK:=jAa (fun W => jI6 c.op W)
 rw [hk] at HK
 have HT:=jAa hTU
 have HLV:=jAa hlv
 have hnn:=Nat.le_of_lt hn
 clear H hr hT hTU hk hlv
 go_enter Tryz.func10,Tryz.ntmps10
 go_upto_region 1 with fail
 rw [jAi]
 generalize ((w.alloc (.cells (cmC c va vc) 33)).alloc (.cells (enC en) 35)).alloc (.cells (rsC jAg none 0) 40) = W at *
 have H1:=jG1 (jGp H0).rot4
 have d0:=(jAf H0.right.right.q.1).1
 have d1:=(jAf H0.right.right.q.1).2.1
 have e0 : W.heap[w.heap.size + 1]? = some (.cells (enC en) 35 (0,0)):=H0.right.q.1
 clear H0
 go_upto_region 5 with (first
  | (go_at_call 13;refine (HK.out _).mono ?_;rintro e w1 ⟨rfl,rfl⟩)
  | (refine ldE (w.heap.size + 1) en rfl _ rfl rfl e0 ?_)
  | (go_at_call 29;refine (kG0 H1 hnn c.key hc.key en hen HLV.out).mono ?_;rintro e w2 ⟨rfl,own2,H2⟩;have H3:=(H2.noVal).box (.cells (itC jBw) 75);clear H1 H2 d0 d1 e0)
  | (refine stI w2.heap.size jBw rfl _ _ rfl rfl rfl (World.alloc_heap_new w2 _) ?_;rw [jAq];generalize w2.alloc (.cells (itC jBw) 75) = w3 at *;have d3:=(jAf H3.right.right.right.right.right.q.1).2.1;have H4:=H3.rot;clear H3)
  | (go_at_call 30;refine (jWp L H4 hnn c.key hc.key _ HT.out).mono ?_;rintro e w5 ⟨⟨v5,rfl⟩,own5,H5⟩;clear H4 d3;obtain ⟨m0,m1,m2,m3,m4,m5,m6,m7,m8,m9⟩:=jAf H5.right.right.right.right.right.q.1;obtain ⟨n0,n1,n2,n3⟩:=jBx H5.right.right.right.right.q.1;obtain ⟨t0,t1,t2,t3,t4,t5,t6,t7,t8,t9⟩:=jAk H5.right.q.1))
 clear HK HT HLV
 go_wp2_with (first
  | (go_at_call 31;have H6:=((H5.box (.cells (tuC b c va vc en (jAe kNm none 0)) 81)).unassoc.rin.assoc);clear m0 m1 m2 m3 m4 m5 m6 m7 m8 m9 n0 n1 n2 n3 t0 t1 t2 t3 t4 t5 t6 t7 t8 t9;refine (jV9 H6 hLd hn hlT hen hc hrd.right.right.right.right hop).mono ?_;rintro e w8 ⟨a8,c8,own8,rfl,H8⟩;have H9:=H8.rin.drop2.rin.rot;clear H8 H6 H5)
  | (refine stR_ (w.heap.size + 1 + 1) (jAw sd T c en).1 a8 c8 rfl _ _ rfl rfl rfl H9.q.1 ?_;have H10:=H9.rsRow (jAw sd T c en).1 a8 c8))
 exact jAj rfl H10.q.1 rfl ⟨a8,c8,own8,rfl,H10.right.rin.drop2.rin.drop2⟩
theorem kC0 (H : Law w0 w ((shQ L b own sd n st).and R)) (hLd : jBr w0) (hn : n < 4398046511104) (hl : n ≤ 900 ∨ st.slab.bud ≤ 57600) (hen : en.ok) (hc : c.ok) (hrd : Rd w0 R va vc c.val) (hk : jCc c.op = true) (y : Ent) (hlv : jAp st c.key en = some y) :
  Calls Tryz.prog 10 #[.pointer (some ⟨b,0,none⟩),.agg (cmC c va vc),.agg (enC en)] w (jDl L w0 b sd (n + 1) R (doH sd st c en)):=by
 have hop:=of_decide_eq_true hk
 have hr : doH sd st c en = jC3 sd (jCy sd st c.key en) c en y.1:=by
  unfold doH
  rw [if_neg (by omega),if_pos hk,hlv]
 have hG : jAo n st:=L.good H.q.1
 have hfy : y ∈ st.ents:=by
  unfold jAp at hlv
  split at hlv
  ·cases hlv
  ·rename_i e he
   split at hlv
   ·cases hlv
    exact (jBs he).1
   ·cases hlv
 have hiy:=(hG.cls y hfy).1
 have hvy:=hG.val hfy
 clear hG hfy
 rw [hr]
 obtain ⟨T,hT⟩ : ∃ T,jCy sd st c.key en = T:=⟨_,rfl⟩
 have hTU : jGt sd (jAy st c.key en) c.key = T:=hT
 have hlT : n ≤ 900 ∨ T.slab.bud ≤ 57600:=by rw [← hT,jFh];exact hl
 rw [hT]
 have H0:=((H.box (.cells (cmC c va vc) 33)).box (.cells (enC en) 35)).box (.cells (rsC jAg none 0) 40)
 rw [World.size_alloc,World.size_alloc] at H0
 have HK:=jAa (fun W => jI6 c.op W)
 rw [hk] at HK
 have HT:=jAa hTU
 have HLV:=jAa hlv
 have hnn:=Nat.le_of_lt hn
 clear H hr hT hTU hk hlv
 go_enter Tryz.func10,Tryz.ntmps10
 go_upto_region 1 with fail
 rw [jAi]
 generalize ((w.alloc (.cells (cmC c va vc) 33)).alloc (.cells (enC en) 35)).alloc (.cells (rsC jAg none 0) 40) = W at *
 have H1:=jG1 (jGp H0).rot4
 have d0:=(jAf H0.right.right.q.1).1
 have d1:=(jAf H0.right.right.q.1).2.1
 have e0 : W.heap[w.heap.size + 1]? = some (.cells (enC en) 35 (0,0)):=H0.right.q.1
 clear H0
 go_upto_region 5 with (first
  | (go_at_call 13;refine (HK.out _).mono ?_;rintro e w1 ⟨rfl,rfl⟩)
  | (refine ldE (w.heap.size + 1) en rfl _ rfl rfl e0 ?_)
  | (go_at_call 29;refine (kDf H1 hnn c.key hc.key en hen y HLV.out).mono ?_;rintro e w2 ⟨a2,c2,rfl,own2,H2⟩;have H3:=H2.box (.cells (itC (jAe y.1 a2 c2)) 75);clear H1 H2 d0 d1 e0)
  | (refine stI w2.heap.size (jAe y.1 a2 c2) rfl _ _ rfl rfl rfl (World.alloc_heap_new w2 _) ?_;rw [jAq];generalize w2.alloc (.cells (itC (jAe y.1 a2 c2)) 75) = w3 at *;have d3:=(jAf H3.right.right.right.right.right.q.1).2.1;have H4:=H3.rot;clear H3)
  | (go_at_call 30;refine (jWp L H4 hnn c.key hc.key _ HT.out).mono ?_;rintro e w5 ⟨⟨v5,rfl⟩,own5,H5⟩;clear H4 d3;obtain ⟨m0,m1,m2,m3,m4,m5,m6,m7,m8,m9⟩:=jAf H5.right.right.right.right.right.q.1;obtain ⟨n0,n1,n2,n3⟩:=jBx H5.right.right.right.right.q.1;obtain ⟨t0,t1,t2,t3,t4,t5,t6,t7,t8,t9⟩:=jAk H5.right.q.1))
 clear HK HT HLV
 go_wp2_with (first
  | (go_at_call 32;have H6:=((H5.box (.cells (tuC b c va vc en (jAe y.1 a2 c2)) 81)).unassoc.rin.assoc);clear m0 m1 m2 m3 m4 m5 m6 m7 m8 m9 n0 n1 n2 n3 t0 t1 t2 t3 t4 t5 t6 t7 t8 t9;refine (kKb H6 hLd hnn hlT hen hc hiy hvy hrd.right.right.right.right hop).mono ?_;rintro e w8 ⟨a8,c8,own8,rfl,H8⟩;have H9:=H8.rin.drop2.rin.rot;clear H8 H6 H5)
  | (refine stR_ (w.heap.size + 1 + 1) (jC3 sd T c en y.1).1 a8 c8 rfl _ _ rfl rfl rfl H9.q.1 ?_;have H10:=H9.rsRow (jC3 sd T c en y.1).1 a8 c8))
 exact jAj rfl H10.q.1 rfl ⟨a8,c8,own8,rfl,H10.right.rin.drop2.rin.drop2⟩
theorem jSo (H : Law w0 w ((shQ L b own sd n st).and R)) (hLd : jBr w0) (hn : n < 4398046511104) (hl : n ≤ 900 ∨ st.slab.bud ≤ 57600) (hen : en.ok) (hc : c.ok) (hrd : Rd w0 R va vc c.val) :
  Calls Tryz.prog 10 #[.pointer (some ⟨b,0,none⟩),.agg (cmC c va vc),.agg (enC en)] w (jDl L w0 b sd (n + 1) R (doH sd st c en)):=by
 cases hk : jCc c.op with
 | false => exact kIb H hl hk
 | true =>
  cases hlv : jAp st c.key en with
  | none => exact kEd H hLd hn hl hen hc hrd hk hlv
  | some y => exact kC0 H hLd hn hl hen hc hrd hk y hlv
end
end
end Go.Proofs.YtkfeafmpaodagaaGreatDoor
