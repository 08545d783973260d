/- What the document's own list answers. Conditions: at most 1000 keys. What the document's own list answers: Hit, All and Victim. Conditions: at most 900 keys. -/
import Derived.Test.YtkfeafmpaodagaaGreatDoorG11Joined
import Derived.Test.YtkfeafmpaodagaaGreatDoorG00Joined
import Derived.Test.YtkfeafmpaodagaaGreatDoorG34Joined
import Derived.BigQuiet
import Derived.Maps.OwnIn
import Derived.Deep.QuietTactic
import Derived.Deep.CutBlock
import Derived.Deep.CutRange
namespace Go.Proofs.YtkfeafmpaodagaaGreatDoor
set_option maxHeartbeats 16000000
section
open Go.RowKit Go.Shelf
set_option maxRecDepth 100000
abbrev jC4 (n0 : Nat) (v : Value) (xs : List ByteArray) : jAd:=jB2 n0 9 1 v xs.length (jB6 xs)
theorem jN2 (l m : List ByteArray) (k : ByteArray) : jCu (l ++ m) k = (jCu l k || jCu m k):=by simp [jCu]
theorem kHr (l : List ByteArray) (s : ByteArray) : jCu (l ++ [s]) s = true:=by rw [jN2];simp [jCu]
theorem kDq {l : List ByteArray} {x s : ByteArray} (h : x ≠ s) : jCu (l ++ [x]) s = jCu l s:=by rw [jN2];simp [jCu,h]
theorem jVz {l : List ByteArray} {x s : ByteArray} (h : x ≠ s) : jAx (l ++ [x]) s = jAx l s ++ [x]:=by
 rw [jIk]
 simp [jAx,h]
theorem jYy {l : List ByteArray} {s : ByteArray} : jAx (l ++ [s]) s = jAx l s:=by
 rw [jIk]
 simp [jAx]
theorem kMc {w w' : World} {v : Value} {xs : List ByteArray} (h : jF5 w v xs) (hs : ∀ k,v.ownBlock = some k → w'.heap[k]? = w.heap[k]?) : jF5 w' v xs:=by
 obtain ⟨a,cap,rfl,hc,hcn⟩:=h
 refine ⟨a,cap,rfl,fun i hi => ?_,hcn⟩
 obtain ⟨b,off,rfl,h1⟩:=hc i hi
 refine ⟨b,off,rfl,?_⟩
 rw [World.cell?_of_block (w:=w) (hs b rfl)]
 exact h1
def jOk (v : Value) (xs : List ByteArray) : jAd:=⟨fun k => v.ownBlock = some k,fun w => jF5 w v xs,fun _ _ h hs => kMc h hs⟩
def jEv (n0 r : Nat) (st : Sr) (vt vs : Value) : jAd:=(jAn r (.cells #[.int .i64 st.most,vt,vs] 67)).and ((jC4 n0 vt st.trial).and (jOk vs st.safe))
theorem jD2 {w : World} {k : Nat} {t : TypeId} {x y z : Value} (h : w.heap[k]? = some (.cells #[x,y,z] t (0,0))) : w.cell? ⟨k,0,none⟩ = some x ∧ w.cell? ⟨k,1,none⟩ = some y ∧ w.cell? ⟨k,2,none⟩ = some z:=by
 simp [World.cell?,h]
section
variable {w0 w w' : World} {r : Nat} {st : Sr} {vt vs : Value} {R : jAd}
theorem Law.ref (H : Law w0 w ((jEv w0.heap.size r st vt vs).and R)) : w.heap[r]? = some (.cells #[.int .i64 st.most,vt,vs] 67 (0,0)) ∧ w.ownsRow w0.heap.size 9 1 vt st.trial.length (jB6 st.trial) ∧ jF5 w vs st.safe:=⟨H.q.1.1,H.q.1.2.1.1,H.q.1.2.1.2.1⟩
theorem Law.open (H : Law w0 w ((jEv w0.heap.size r st vt vs).and R)) : Law w0 w ((jAn r (.cells #[.int .i64 st.most,vt,vs] 67)).and ((jC4 w0.heap.size vt st.trial).and ((jOk vs st.safe).and R))):=H.assoc.inAssoc
theorem Law.shut (H : Law w0 w ((jAn r (.cells #[.int .i64 st.most,vt,vs] 67)).and ((jC4 w0.heap.size vt st.trial).and ((jOk vs st.safe).and R)))) : Law w0 w ((jEv w0.heap.size r st vt vs).and R):=H.inUnassoc.unassoc
end
theorem kA6 {w0 w w1 : World} {r : Nat} {st : Sr} {vt vs v' : Value} {R : jAd} {s : ByteArray} {tmp : Obj} (H : Law w0 w ((jEv w0.heap.size r st vt vs).and R)) (hown : w1.ownsRow w0.heap.size 9 1 v' (st.trial.length + 1) (jB6 st.trial ++ [.string s])) (hgrow : (w.alloc tmp).grownBy w1 vt.ownBlock) (hat : v'.ownBlock = vt.ownBlock ∨ v'.ownBlock = some (w.alloc tmp).heap.size) :
  w1.frozen? ⟨r,1,none⟩ = false ∧ w1.cell? ⟨r,1,none⟩ = some vt ∧ Law w0 (w1.setCell ⟨r,1,none⟩ v') ((jEv w0.heap.size r ⟨st.most,st.trial ++ [s],st.safe⟩ v' vs).and R):=by
 have H1:=(H.open.rot.app hown hgrow hat).rot
 refine ⟨frozen_of_row w1 r 1 _ _ H1.q.1,(jD2 H1.q.1).2.1,?_⟩
 have H2:=H1.setAt 1 v'
 refine Law.shut ?_
 unfold jC4
 rw [List.length_append,jL2]
 exact H2
theorem kB3 {w0 w : World} {r : Nat} {st : Sr} {vt vs v1 v2 : Value} {R : jAd} {xs ys : List ByteArray} (H : Law w0 w ((jC4 w0.heap.size v2 ys).and ((jC4 w0.heap.size v1 xs).and ((jEv w0.heap.size r st vt vs).and R)))) :
  w.cell? ⟨r,1,none⟩ = some vt ∧ w.frozen? ⟨r,1,none⟩ = false ∧ (w.setCell ⟨r,1,none⟩ v1).cell? ⟨r,2,none⟩ = some vs ∧ (w.setCell ⟨r,1,none⟩ v1).frozen? ⟨r,2,none⟩ = false ∧
  Law w0 ((w.setCell ⟨r,1,none⟩ v1).setCell ⟨r,2,none⟩ v2) ((jAn r (.cells #[.int .i64 st.most,v1,v2] 67)).and ((jC4 w0.heap.size v1 xs).and ((jC4 w0.heap.size v2 ys).and R))):=by
 have H1:=H.rin.rot.in1 (R':=(jC4 w0.heap.size v2 ys).and ((jC4 w0.heap.size v1 xs).and R)) (fun h => h) (fun k hk => hk)
 have H2:=H1.assoc.in1 (R':=(jC4 w0.heap.size v2 ys).and ((jC4 w0.heap.size v1 xs).and R)) (fun h => h.2.1) (fun k hk => .inr hk)
 have H3:=H2.setAt 1 v1
 have H4:=H3.setAt 2 v2
 exact ⟨(jD2 H2.q.1).2.1,frozen_of_row w r 1 _ _ H2.q.1,(jD2 H3.q.1).2.2,frozen_of_row _ r 2 _ _ H3.q.1,H4.rin⟩
theorem jSf (w : World) (base : Nat) (ty : TypeId) {v x : Value} {n : Nat} {xs : List Value} {ys : List ByteArray} (hown : w.ownsRow base 9 1 v n xs) (hx : jF5 w x ys) (hn : n + ys.length ≤ 4000) (hb : base ≤ w.heap.size) :
  ∃ v' w',(Builtin.append_ #[46,46] ty #[v,x]).run Tryz.prog w = .ok v' w' ∧ w'.ownsRow base 9 1 v' (n + ys.length) (xs ++ jB6 ys) ∧ w.grownBy w' v.ownBlock ∧ (v'.ownBlock = v.ownBlock ∨ v'.ownBlock = some w.heap.size):=by
 obtain ⟨i0,hi,hz0,hz1,hz2⟩:=info_parts jJ4
 obtain ⟨a,cap,rfl,hc,hcn⟩:=hx
 cases a with
 | none =>
  obtain rfl:=hcn rfl
  have hy : ys = []:=by
   rcases ys with _ | ⟨y,l⟩
   ·rfl
   ·obtain ⟨b,off,e,_⟩:=hc 0 (by simp)
    cases e
  subst hy
  refine ⟨v,w,run_append_owned_none w base 46 ty 9 i0 1 Tryz.underlying46 hi v n xs hown,?_,jDg _ _,.inl rfl⟩
  simpa [jB6] using hown
 | some ad =>
  have hnews : ∀ (j : Nat) (u : Value),(jB6 ys)[j]? = some u → w.cell? (ad.add j) = some u:=by
   intro j u hu
   have hj : j < ys.length:=by
    have:=(List.getElem?_eq_some_iff.1 hu).1
    rwa [jXd] at this
   obtain ⟨b,off,e,h1⟩:=hc j hj
   cases e
   have hadd : (⟨b,off,none⟩ : Addr).add j = ⟨b,off + j,none⟩:=by unfold Addr.add;split <;> simp_all
   rw [hadd,h1]
   rw [jB6,List.getElem?_map,List.getElem?_eq_getElem hj] at hu
   rw [← hu]
   simp [List.getD,List.getElem?_eq_getElem hj]
  obtain ⟨v',w',h1,h2,h3,_,h5⟩:=run_append_own_at (P:=Tryz.prog) w base 46 ty 9 i0 (.string ⟨#[]⟩) 1 16 Tryz.underlying46 hi hz0 hz1 hz2 rfl (by decide) v n xs hown ad ys.length cap (jB6 ys) (by rw [jXd,Nat.mul_one]) hnews (fun u hu => by obtain ⟨y,_,rfl⟩:=List.mem_map.1 hu;rfl) (by unfold maxLen;omega) (by omega) hb
  exact ⟨v',w',h1,h2,h3,h5⟩
theorem jKz {w : World} {ops : Array Oper} {rest : List Oper} {o : Oper} {a : Act} {Q : Exit → Act → World → Prop} (hgd : o.guard = none) (s x : Operand) (ho : o.op = .call { callee:=.builtin .append,args:=#[s,x],argTypes:=#[46,46] })
  (base : Nat) (v : Value) (n : Nat) (xs : List Value) (hs : a.eval s = v) (hown : w.ownsRow base 9 1 v n xs) (u : Value) (ys : List ByteArray) (hx : a.eval x = u) (hu : jF5 w u ys) (hn : n + ys.length ≤ 4000) (hb : base ≤ w.heap.size)
  (h : ∀ v' w',w'.ownsRow base 9 1 v' (n + ys.length) (xs ++ jB6 ys) → w.grownBy w' v.ownBlock → (v'.ownBlock = v.ownBlock ∨ v'.ownBlock = some w.heap.size) → wpList Tryz.prog ops Q rest (a.put o.dst v') w') :
  wpList Tryz.prog ops Q (o :: rest) a w:=by
 refine wpList_plain hgd fun K hK => ?_
 obtain ⟨v',w',hr,h2,h3,h5⟩:=jSf w base o.type hown hu hn hb
 unfold Oper.wp execOp
 simp only [ho,resolve,invoke,builtin,Sem.run_bind,Sem.run_pure,Result.andThen_ok,List.map_toArray,List.map_cons,List.map_nil,hs,hx,hr]
 exact hK _ _ (h v' w' h2 h3 h5)
theorem jEb {w0 w : World} {R : jAd} {v : Value} {xs : List ByteArray} (H : Law w0 w R) (hv : ∀ W,Law w0 W R → jF5 W v xs) (hx : xs.length ≤ 1000) (s : ByteArray) (q : Bool) (hq : jCu xs s = q) :
  Calls Tryz.prog 113 #[v,.string s] w fun e w' => ∃ v',e = .returned (.tuple #[v',.bool q]) ∧ Law w0 w' ((jC4 w0.heap.size v' (jAx xs s)).and R):=by
 subst hq
 obtain ⟨a,cap,rfl,-,-⟩:=hv w H
 obtain ⟨i0,hi,hz0,hz1,hz2⟩:=info_parts jJ4
 obtain ⟨n,hn⟩ : ∃ n,xs.length = n:=⟨_,rfl⟩
 rw [hn] at hv hx ⊢
 go_enter Tryz.func113,Tryz.ntmps113
 go_wp2
 go_loopw [6,7,8] (fun u b i wr => ∃ k : Nat,k ≤ n ∧ i = .int .i64 k ∧ b = .bool (jCu (xs.take k) s) ∧ Law w0 wr ((jC4 w0.heap.size u (jAx (xs.take k) s)).and R)) (fun _ _ i _ => n - (intOf i).toNat)
 case atStart => exact ⟨0,Nat.zero_le _,rfl,rfl,H.nil⟩
 case round =>
  clear H
  obtain ⟨k,hk,rfl,rfl,H⟩:=hrel
  obtain ⟨pv,cv,rfl⟩:=jAr H.q.1
  by_cases hlt : k < n
  ·obtain ⟨a',c',e',hc,-⟩:=hv wr H.right
   rw [hn] at e'
   cases e'
   obtain ⟨b1,o1,rfl,c1⟩:=hc k (by omega)
   have htk : xs.take (k + 1) = xs.take k ++ [xs[k]]:=List.take_succ_eq_append_getElem (by omega)
   have hlw : (jAx (xs.take k) s).length ≤ 1000:=by
    have:=jJr (xs.take k) s
    rw [List.length_take] at this
    omega
   have hki : (k : Int) < (n : Int):=by omega
   have hgd : xs.getD k ⟨#[]⟩ = xs[k]:=by simp [List.getD,List.getElem?_eq_getElem (show k < xs.length by omega)]
   rw [hgd] at c1
   clear hgd
   by_cases he : xs[k] = s
   ·rw [he] at c1 htk
    have HW : Hid (jAx (xs.take (k + 1)) s = jAx (xs.take k) s ∧ jCu (xs.take (k + 1)) s = true):=by
     show _ ∧ _
     rw [htk,jYy,kHr]
     exact ⟨rfl,rfl⟩
    clear htk hc
    go_wp2
    go_roundw
    case rel => exact ⟨k + 1,by omega,by go_num,by rw [HW.out.2],by rw [HW.out.1];exact H⟩
    case measure => simp [intOf];omega
   ·have hne:=jPf he
    have HW : Hid (jAx (xs.take (k + 1)) s = jAx (xs.take k) s ++ [xs[k]] ∧ jCu (xs.take (k + 1)) s = jCu (xs.take k) s):=by
     show _ ∧ _
     rw [htk,jVz he,kDq he]
     exact ⟨rfl,rfl⟩
    clear htk he hc
    generalize xs[k] = x at *
    have hrow : wr.ownsRow w0.heap.size 9 1 _ _ _:=H.q.1
    have hB:=H.below.size
    go_wp2_with (at_builtin;refine wpList_append_own_at _ rfl _ _ 46 rfl w0.heap.size 9 i0 (.string ⟨#[]⟩) 1 16 Tryz.underlying46 hi hz0 hz1 hz2 rfl (by decide) _ _ _ rfl (hrow.alloc _) ⟨_,0,none⟩ 1 1 [.string x] rfl rfl (cell_one_new _ _ _) (by simp [Value.oneCell']) (by unfold maxLen;omega) (by omega) (by simp;omega) ?_;intro v' w8 hown' hgrow _ hat;have H8:=H.app hown' hgrow hat)
    go_roundw
    case rel => exact ⟨k + 1,by omega,by go_num,by rw [HW.out.2],by rw [HW.out.1];unfold jC4;rw [List.length_append,jL2];exact H8⟩
    case measure => simp [intOf];omega
  ·obtain rfl : k = n:=by omega
   have ht : xs.take k = xs:=by rw [← hn,List.take_length]
   rw [ht] at H ⊢
   go_wp2
   go_ret2
   exact ⟨_,rfl,H⟩
section
variable {w0 w : World} {r : Nat} {st : Sr} {vt vs : Value} {R : jAd}
theorem kBi (H : Law w0 w ((jEv w0.heap.size r st vt vs).and R)) (hn : (jA3 st).length ≤ 1000) (s : ByteArray) (q : Bool) (hq : jCu (jA3 st) s = q) :
  Calls Tryz.prog 150 #[.pointer (some ⟨r,0,none⟩),.string s] w fun e w' => e = .returned (.bool q) ∧ Law w0 w' ((jEv w0.heap.size r st vt vs).and R):=by
 have hl : st.trial.length + st.safe.length ≤ 1000:=by rw [← List.length_append];exact hn
 have hq2 : (jCu st.trial s || jCu st.safe s) = q:=by rw [← hq];exact (jN2 _ _ _).symm
 obtain ⟨-,c1,c2⟩:=jD2 H.ref.1
 obtain ⟨q1,h1⟩ : ∃ q,jCu st.trial s = q:=⟨_,rfl⟩
 obtain ⟨q2,h2⟩ : ∃ q,jCu st.safe s = q:=⟨_,rfl⟩
 rw [h1,h2] at hq2
 have K1:=jAa h1
 have K2:=jAa h2
 have HQ:=jAa hq2
 clear h1 h2 hq2 hq
 cases q1 with
 | true =>
  go_enter Tryz.func150,Tryz.ntmps150
  go_wp2_with (first
   | (go_at_call 113;have t:=K1;clear t;refine (jEb H (fun W HW => jEy HW.ref.2.1) (by omega) s _ K1.out).mono ?_;clear K1 H c1 c2;rintro e w1 ⟨v1,rfl,H1⟩;have H:=H1.right;clear H1;obtain ⟨-,c1,c2⟩:=jD2 H.ref.1)
   | (go_at_call 113;refine (jEb H (fun W HW => HW.ref.2.2) (by omega) s _ K2.out).mono ?_;clear H c1 c2;rintro e w2 ⟨v2,rfl,H1⟩;have H:=H1.right;clear H1))
  go_ret
  exact ⟨by rw [← HQ.out];rfl,H⟩
 | false =>
  go_enter Tryz.func150,Tryz.ntmps150
  go_wp2_with (first
   | (go_at_call 113;have t:=K1;clear t;refine (jEb H (fun W HW => jEy HW.ref.2.1) (by omega) s _ K1.out).mono ?_;clear K1 H c1 c2;rintro e w1 ⟨v1,rfl,H1⟩;have H:=H1.right;clear H1;obtain ⟨-,c1,c2⟩:=jD2 H.ref.1)
   | (go_at_call 113;refine (jEb H (fun W HW => HW.ref.2.2) (by omega) s _ K2.out).mono ?_;clear H c1 c2;rintro e w2 ⟨v2,rfl,H1⟩;have H:=H1.right;clear H1))
  go_ret
  exact ⟨by rw [← HQ.out];rfl,H⟩
theorem kMz (H : Law w0 w ((jEv w0.heap.size r st vt vs).and R)) (hn : (jA3 st).length ≤ 900) (s : ByteArray) (e : Int) (t : Sr) (he : jMd st s = e) (ht : jJ9 st s = t) :
  Calls Tryz.prog 112 #[.pointer (some ⟨r,0,none⟩),.string s] w fun en w' => en = .returned (.int .i64 e) ∧ ∃ vt' vs',Law w0 w' ((jEv w0.heap.size r t vt' vs').and R):=by
 subst he ht
 have hl : st.trial.length + st.safe.length ≤ 900:=by rw [← List.length_append];exact hn
 obtain ⟨i0,hi,hz0,hz1,hz2⟩:=info_parts jJ4
 by_cases hm : s ∈ jA3 st
 ·rw [(jXl hm).1,(jXl hm).2]
  have HH:=jAa (jC5.2 hm)
  go_enter Tryz.func112,Tryz.ntmps112
  go_wp2_with (go_at_call 150;refine (kBi H (by omega) s _ HH.out).mono ?_;clear H;rintro e w1 ⟨rfl,H⟩)
  go_ret
  exact ⟨rfl,_,_,H⟩
 ·rw [(jP5 hm).1,(jP5 hm).2]
  have HH:=jAa (jKg.2 hm)
  go_enter Tryz.func112,Tryz.ntmps112
  go_wp2_with (first
   | (go_at_call 150;refine (kBi H (by omega) s _ HH.out).mono ?_;clear H;rintro e w1 ⟨rfl,H⟩;obtain ⟨-,c1,-⟩:=jD2 H.ref.1;have hrow:=H.ref.2.1;have hB:=H.below.size)
   | (at_builtin;refine wpList_append_own_at _ rfl _ _ 46 rfl w0.heap.size 9 i0 (.string ⟨#[]⟩) 1 16 Tryz.underlying46 hi hz0 hz1 hz2 rfl (by decide) _ _ _ rfl (hrow.alloc _) ⟨_,0,none⟩ 1 1 [.string s] rfl rfl (cell_one_new _ _ _) (by simp [Value.oneCell']) (by unfold maxLen;omega) (by omega) (by simp;omega) ?_;intro v' w2 hown' hgrow _ hat;obtain ⟨g',cap',rfl⟩:=ownsRow_succ hown';obtain ⟨hf,hc,H2⟩:=kA6 H hown' hgrow hat))
  go_ret
  exact ⟨rfl,_,_,H2⟩
theorem kA8 (H : Law w0 w ((jEv w0.heap.size r st vt vs).and R)) (hn : (jA3 st).length ≤ 1000) (s : ByteArray) (hm : s ∈ jA3 st) :
  Calls Tryz.prog 79 #[.pointer (some ⟨r,0,none⟩),.string s] w fun en w' => en = .returned (.int .i64 0) ∧ ∃ vt' vs',Law w0 w' ((jAn r (.cells #[.int .i64 st.most,vt',vs'] 67)).and ((jC4 w0.heap.size vt' (jAx st.trial s)).and ((jC4 w0.heap.size vs' (jAx st.safe s)).and R))):=by
 have hl : st.trial.length + st.safe.length ≤ 1000:=by rw [← List.length_append];exact hn
 have hq2 : (jCu st.trial s || jCu st.safe s) = true:=by rw [← jN2];exact jC5.2 hm
 obtain ⟨-,c1,c2⟩:=jD2 H.ref.1
 obtain ⟨q1,h1⟩ : ∃ q,jCu st.trial s = q:=⟨_,rfl⟩
 obtain ⟨q2,h2⟩ : ∃ q,jCu st.safe s = q:=⟨_,rfl⟩
 rw [h1,h2] at hq2
 have K1:=jAa h1
 have K2:=jAa h2
 clear h1 h2
 cases q1 with
 | true =>
  clear hq2
  go_enter Tryz.func79,Tryz.ntmps79
  go_wp2_with (first
   | (go_at_call 113;have t:=K1;clear t;refine (jEb H (fun W HW => jEy HW.ref.2.1) (by omega) s _ K1.out).mono ?_;clear K1 H c1 c2;rintro e w1 ⟨v1,rfl,H⟩;obtain ⟨p1,k1,rfl⟩:=jAr H.q.1;obtain ⟨-,c1,c2⟩:=jD2 H.right.ref.1)
   | (go_at_call 113;refine (jEb H (fun W HW => HW.right.ref.2.2) (by omega) s _ K2.out).mono ?_;clear H c1 c2;rintro e w2 ⟨v2,rfl,H⟩;obtain ⟨p2,k2,rfl⟩:=jAr H.q.1;obtain ⟨c1,f1,c2,f2,H1⟩:=kB3 H))
  go_ret
  exact ⟨rfl,_,_,H1⟩
 | false =>
  obtain rfl : q2 = true:=hq2
  go_enter Tryz.func79,Tryz.ntmps79
  go_wp2_with (first
   | (go_at_call 113;have t:=K1;clear t;refine (jEb H (fun W HW => jEy HW.ref.2.1) (by omega) s _ K1.out).mono ?_;clear K1 H c1 c2;rintro e w1 ⟨v1,rfl,H⟩;obtain ⟨p1,k1,rfl⟩:=jAr H.q.1;obtain ⟨-,c1,c2⟩:=jD2 H.right.ref.1)
   | (go_at_call 113;refine (jEb H (fun W HW => HW.right.ref.2.2) (by omega) s _ K2.out).mono ?_;clear H c1 c2;rintro e w2 ⟨v2,rfl,H⟩;obtain ⟨p2,k2,rfl⟩:=jAr H.q.1;obtain ⟨c1,f1,c2,f2,H1⟩:=kB3 H))
  go_ret
  exact ⟨rfl,_,_,H1⟩
theorem kCg (H : Law w0 w ((jEv w0.heap.size r st vt vs).and R)) (hn : (jA3 st).length ≤ 1000) (s : ByteArray) (hm : ¬ s ∈ jA3 st) :
  Calls Tryz.prog 79 #[.pointer (some ⟨r,0,none⟩),.string s] w fun en w' => en = .returned (.int .i64 6) ∧ Law w0 w' ((jEv w0.heap.size r st vt vs).and R):=by
 have hl : st.trial.length + st.safe.length ≤ 1000:=by rw [← List.length_append];exact hn
 have K1:=jAa (jKg.2 fun h => hm (List.mem_append_left _ h))
 have K2:=jAa (jKg.2 fun h => hm (List.mem_append_right _ h))
 obtain ⟨-,c1,c2⟩:=jD2 H.ref.1
 clear hm
 go_enter Tryz.func79,Tryz.ntmps79
 go_wp2_with (first
  | (go_at_call 113;have t:=K1;clear t;refine (jEb H (fun W HW => jEy HW.ref.2.1) (by omega) s _ K1.out).mono ?_;clear K1 H c1 c2;rintro e w1 ⟨v1,rfl,H1⟩;have H:=H1.right;clear H1;obtain ⟨-,c1,c2⟩:=jD2 H.ref.1)
  | (go_at_call 113;refine (jEb H (fun W HW => HW.ref.2.2) (by omega) s _ K2.out).mono ?_;clear H c1 c2;rintro e w2 ⟨v2,rfl,H1⟩;have H:=H1.right;clear H1))
 go_ret
 exact ⟨rfl,H⟩
end
end
section
open Go.RowKit Go.Shelf
set_option maxRecDepth 100000
section
variable {w0 w : World} {r : Nat} {st : Sr} {vt vs : Value} {R : jAd}
theorem kOi (H : Law w0 w ((jEv w0.heap.size r st vt vs).and R)) (hn : (jA3 st).length ≤ 1000) (xs : List ByteArray) (hx : jA3 st = xs) :
  Calls Tryz.prog 174 #[.pointer (some ⟨r,0,none⟩)] w fun en w' => ∃ v,en = .returned v ∧ Law w0 w' ((jC4 w0.heap.size v xs).and ((jEv w0.heap.size r st vt vs).and R)):=by
 subst hx
 have hl : st.trial.length + st.safe.length ≤ 1000:=by rw [← List.length_append];exact hn
 obtain ⟨-,c1,-⟩:=jD2 H.ref.1
 have hB:=H.below.size
 have k1:=jAa True.intro
 go_enter Tryz.func174,Tryz.ntmps174
 go_wp2_with (first
  | (at_builtin;have t:=k1;clear t;refine jKz rfl _ _ rfl w0.heap.size _ _ _ rfl (World.ownsRow_nil _ _ _ _) _ _ rfl (jEy H.ref.2.1) (by omega) hB ?_;intro v1 w1 hown1 hg1 hat1;replace H:=(H.nil (n0:=w0.heap.size) (e:=9) (size:=1)).app0 hown1 hg1 hat1;clear k1 hown1 hg1 hat1 c1 hB;obtain ⟨-,-,c2⟩:=jD2 H.right.ref.1;have hrow : w1.ownsRow w0.heap.size 9 1 v1 _ _:=H.q.1;have hB:=H.below.size)
  | (at_builtin;refine jKz rfl _ _ rfl w0.heap.size _ _ _ rfl hrow _ _ rfl H.right.ref.2.2 (by omega) hB ?_;intro v2 w2 hown2 hg2 hat2;replace H:=H.app0 hown2 hg2 hat2;clear hown2 hg2 hat2 c2 hB))
 go_ret
 refine ⟨_,rfl,?_⟩
 have e1 : jB6 (jA3 st) = [] ++ jB6 st.trial ++ jB6 st.safe:=by unfold jA3 jB6;simp
 have e2 : (jA3 st).length = 0 + st.trial.length + st.safe.length:=by unfold jA3;rw [List.length_append];omega
 unfold jC4
 rw [e1,e2]
 exact H
theorem jWl {l : List ByteArray} {s : ByteArray} (h : ∀ x ∈ l,x = s) : l.find? (fun x => decide (x ≠ s)) = none:=by
 rw [List.find?_eq_none]
 intro x hx
 simp [h x hx]
theorem kMq {l m : List ByteArray} {x s : ByteArray} (h : ∀ y ∈ l,y = s) (hx : x ≠ s) : (l ++ x :: m).find? (fun x => decide (x ≠ s)) = some x:=by
 rw [List.find?_append,jWl h]
 simp [hx]
theorem jKa (H : Law w0 w ((jEv w0.heap.size r st vt vs).and R)) (hn : (jA3 st).length ≤ 1000) (s : ByteArray) (x : ByteArray) (q : Bool) (hx : (jDe st s).getD ⟨#[]⟩ = x) (hq : (jDe st s).isSome = q) :
  Calls Tryz.prog 148 #[.pointer (some ⟨r,0,none⟩),.string s] w fun en w' => en = .returned (.tuple #[.string x,.bool q]) ∧ Law w0 w' ((jEv w0.heap.size r st vt vs).and R):=by
 subst hx hq
 obtain ⟨xs,hxs⟩ : ∃ xs,jA3 st = xs:=⟨_,rfl⟩
 obtain ⟨n,hnn⟩ : ∃ n,xs.length = n:=⟨_,rfl⟩
 have HX:=jAa hxs
 have HN:=jAa hnn
 have hn1 : n ≤ 1000:=by rw [← hnn,← hxs];exact hn
 have HV : Hid (jDe st s = xs.find? fun x => decide (x ≠ s)):=by show _ = _;rw [← hxs];rfl
 clear hxs hnn
 go_enter Tryz.func148,Tryz.ntmps148
 go_wp2_with (go_at_call 174;refine (kOi H hn _ HX.out).mono ?_;clear H;rintro e w1 ⟨v,rfl,H⟩;obtain ⟨pv,cv,rfl⟩:=jAr H.q.1;unfold jC4 at H;rw [HN.out] at H ⊢)
 go_loopw [7] (fun i wr => ∃ k : Nat,k ≤ n ∧ i = .int .i64 k ∧ (∀ y ∈ xs.take k,y = s) ∧ Law w0 wr ((jB2 w0.heap.size 9 1 (.slice pv n cv) n (jB6 xs)).and ((jEv w0.heap.size r st vt vs).and R))) (fun i _ => n - (intOf i).toNat)
 case atStart => exact ⟨0,Nat.zero_le _,rfl,fun y hy => by simp at hy,H⟩
 case round =>
  clear H
  obtain ⟨k,hk,rfl,hall,H⟩:=hrel
  by_cases hlt : k < n
  ·have hkx : k < xs.length:=by rw [HN.out];exact hlt
   obtain ⟨g,rfl,c1⟩:=jXi H.q.1 k hkx HN.out
   have hki : (k : Int) < (n : Int):=by omega
   by_cases he : xs[k] = s
   ·have HA : Hid (∀ y ∈ xs.take (k + 1),y = s):=by
     show ∀ y ∈ xs.take (k + 1),y = s
     rw [List.take_succ_eq_append_getElem hkx]
     intro y hy
     rcases List.mem_append.1 hy with hy | hy
     ·exact hall y hy
     ·rw [List.mem_singleton] at hy
      rw [hy,he]
    rw [he] at c1
    clear hall he
    go_wp2
    go_roundw
    case rel => exact ⟨k + 1,by omega,by go_num,HA.out,H⟩
    case measure => simp [intOf];omega
   ·have hne:=jPf he
    have HA : Hid (jDe st s = some xs[k]):=by
     show _ = _
     rw [HV.out]
     have e : xs = xs.take k ++ xs[k] :: xs.drop (k + 1):=by rw [← List.drop_eq_getElem_cons hkx,List.take_append_drop]
     generalize hzz : xs[k] = z at *
     rw [e]
     exact kMq hall he
    clear hall he
    generalize xs[k] = z at *
    go_wp2
    go_ret2
    exact ⟨by rw [HA.out];rfl,H.right⟩
  ·obtain rfl : k = n:=by omega
   have HA : Hid (jDe st s = none):=by
    show _ = _
    rw [HV.out]
    exact jWl fun y hy => hall y (by rw [← HN.out,List.take_length];exact hy)
   clear hall
   go_wp2
   go_ret2
   exact ⟨by rw [HA.out];rfl,H.right⟩
theorem kOk {w1 : World} {vt vs v' : Value} {ts ss : List ByteArray} {m : Int} {s : ByteArray} {tmp : Obj} (H : Law w0 w ((jAn r (.cells #[.int .i64 m,vt,vs] 67)).and ((jC4 w0.heap.size vt ts).and ((jC4 w0.heap.size vs ss).and R)))) (hown : w1.ownsRow w0.heap.size 9 1 v' (ss.length + 1) (jB6 ss ++ [.string s])) (hgrow : (w.alloc tmp).grownBy w1 vs.ownBlock) (hat : v'.ownBlock = vs.ownBlock ∨ v'.ownBlock = some (w.alloc tmp).heap.size) :
  w1.frozen? ⟨r,2,none⟩ = false ∧ w1.cell? ⟨r,2,none⟩ = some vs ∧ Law w0 (w1.setCell ⟨r,2,none⟩ v') ((jAn r (.cells #[.int .i64 m,vt,v'] 67)).and ((jC4 w0.heap.size vt ts).and ((jC4 w0.heap.size v' (ss ++ [s])).and R))):=by
 have H1:=(H.rin.rot.app hown hgrow hat).rot
 refine ⟨frozen_of_row w1 r 2 _ _ H1.q.1,(jD2 H1.q.1).2.2,?_⟩
 have H2:=(H1.setAt 2 v').rin
 unfold jC4
 rw [List.length_append,jL2]
 exact H2
theorem kCy {g n cap : Nat} {x : ByteArray} {l : List ByteArray} (h : w.ownsRow w0.heap.size 9 1 (.slice (some ⟨g,0,none⟩) n cap) n (jB6 (x :: l))) (hn : (x :: l).length = n) :
  ∃ ad : Addr,(if cap = 1 then some (⟨g,0,none⟩ : Addr) else some ⟨g,1,none⟩) = some ad ∧ (Value.slice (some ad) (n - 1) (cap - 1)).ownBlock = some g ∧ jF5 w (.slice (some ad) (n - 1) (cap - 1)) l:=by
 have hc:=jGe h
 have hl : l.length = n - 1:=by rw [← hn];rfl
 have hcell : ∀ i,i < l.length → w.cell? ⟨g,1 + i,none⟩ = some (.string (l.getD i ⟨#[]⟩)):=by
  intro i hi
  rw [h.cellAt (1 + i) (by rw [← hn,List.length_cons];omega),jB6,List.getElem?_map,Nat.add_comm,List.getElem?_cons_succ,List.getElem?_eq_getElem hi]
  simp [List.getD,List.getElem?_eq_getElem hi]
 by_cases hce : cap = 1
 ·refine ⟨⟨g,0,none⟩,by rw [if_pos hce],rfl,some ⟨g,0,none⟩,cap - 1,by rw [hl],fun i hi => ?_,fun e => by cases e⟩
  omega
 ·refine ⟨⟨g,1,none⟩,by rw [if_neg hce],rfl,some ⟨g,1,none⟩,cap - 1,by rw [hl],fun i hi => ⟨g,1,rfl,hcell i hi⟩,fun e => by cases e⟩
theorem kMf {vt vs : Value} {ad : Addr} {g n cap : Nat} {ts l : List ByteArray} {m : Int} {x : ByteArray} (H : Law w0 w ((jAn r (.cells #[.int .i64 m,vt,vs] 67)).and ((jC4 w0.heap.size vt ts).and ((jC4 w0.heap.size vs (x :: l)).and R)))) (hv : vs.ownBlock = some g) (ho : (Value.slice (some ad) n cap).ownBlock = some g) (hh : jF5 w (.slice (some ad) n cap) l) :
  Law w0 (w.setCell ⟨r,2,none⟩ (.slice (some ad) n cap)) ((jEv w0.heap.size r ⟨m,ts,l⟩ vt (.slice (some ad) n cap)).and R):=by
 have H1:=H.rin.rot.weak1 (A':=jOk (.slice (some ad) n cap) l) (fun _ => hh) (fun k hk => by
  have hk' : (Value.slice (some ad) n cap).ownBlock = some k:=hk
  rw [ho] at hk'
  show vs.ownBlock = some k
  rw [hv,hk'])
 have H2:=H1.rot.setAt 2 (.slice (some ad) n cap)
 exact Law.shut (st:=⟨m,ts,l⟩) H2.rin
set_option maxRecDepth 100000 in
theorem kOd (H : Law w0 w ((jEv w0.heap.size r st vt vs).and R)) (hn : (jA3 st).length ≤ 900) (s : ByteArray) (e : Int) (t : Sr) (he : jJu st s = e) (ht : jE9 st s = t) :
  Calls Tryz.prog 71 #[.pointer (some ⟨r,0,none⟩),.string s] w fun en w' => en = .returned (.int .i64 e) ∧ ∃ vt' vs',Law w0 w' ((jEv w0.heap.size r t vt' vs').and R):=by
 subst he ht
 obtain ⟨i0,hi,hz0,hz1,hz2⟩:=info_parts jJ4
 by_cases hm : s ∈ jA3 st
 ·rw [jXn hm]
  have hl : st.trial.length + st.safe.length ≤ 900:=by rw [← List.length_append];exact hn
  have hw1:=jJr st.trial s
  have hw2:=jJr st.safe s
  obtain ⟨mo,hmo⟩ : ∃ m,st.most = m:=⟨_,rfl⟩
  have HT : Hid (jE9 st s = jGs ⟨mo,jAx st.trial s,jAx st.safe s ++ [s]⟩):=by
   show _ = _
   unfold jE9
   rw [if_pos (jC5.2 hm),hmo]
  go_enter Tryz.func71,Tryz.ntmps71
  go_upto_region 4 with (go_at_call 79;refine (kA8 H (by omega) s hm).mono ?_;clear H;rintro e w1 ⟨rfl,vt',vs',H⟩)
  rw [hmo] at H
  generalize jAx st.trial s = ts at *
  generalize jAx st.safe s = ss at *
  obtain ⟨c0,c1,c2⟩:=jD2 H.q.1
  have hrow : w1.ownsRow w0.heap.size 9 1 vs' ss.length (jB6 ss):=H.q.2.1.2.1.1
  have hB:=H.below.size
  clear hmo hm
  go_upto_region 5 with (at_builtin;refine wpList_append_own_at _ rfl _ _ 46 rfl w0.heap.size 9 i0 (.string ⟨#[]⟩) 1 16 Tryz.underlying46 hi hz0 hz1 hz2 rfl (by decide) _ _ _ rfl (hrow.alloc _) ⟨_,0,none⟩ 1 1 [.string s] rfl rfl (cell_one_new _ _ _) (by simp [Value.oneCell']) (by unfold maxLen;omega) (by omega) (by simp;omega) ?_;intro v' w2 hown' hgrow _ hat;obtain ⟨g',cap',rfl⟩:=ownsRow_succ hown';obtain ⟨hf,hc,H2⟩:=kOk H hown' hgrow hat)
  obtain ⟨xs,hxs⟩ : ∃ xs,ss ++ [s] = xs:=⟨_,rfl⟩
  have hxl : xs.length = ss.length + 1:=by rw [← hxs];simp
  rw [hxs] at H2 HT
  clear c0 c1 c2 hf hc hown' hgrow hat hrow hB hxs H
  obtain ⟨W,hW⟩ : ∃ W,w2.setCell ⟨r,2,none⟩ (.slice (some ⟨g',0,none⟩) (ss.length + 1) cap') = W:=⟨_,rfl⟩
  rw [hW] at H2 ⊢
  clear hW
  obtain ⟨n,hnn⟩ : ∃ n,ss.length + 1 = n:=⟨_,rfl⟩
  rw [hnn] at H2 hxl ⊢
  have hn1 : 1 ≤ n:=by omega
  have hn9 : n ≤ 901:=by omega
  have hn0 : (0 : Int) < (n : Int):=by omega
  clear hnn hw2 hn
  obtain ⟨c0,-,c2⟩:=jD2 H2.q.1
  by_cases hc : mo < (n : Int)
  ·have hd : decide (mo < (n : Int)) = true:=decide_eq_true hc
   obtain ⟨x,l,rfl⟩ : ∃ x l,xs = x :: l:=List.exists_cons_of_length_pos (by omega)
   have HS : Hid (jGs ⟨mo,ts,x :: l⟩ = ⟨mo,ts ++ [x],l⟩):=by
    show _ = _
    unfold jGs
    rw [if_pos (by show mo < ((x :: l).length : Int);rw [hxl];exact hc)]
   clear hc
   go_wp2
   go_quiet (fail)
   have H3:=H2.drewN nq
   generalize W.drewN nq = V at H3 ⊢
   clear H2 c0 c2
   have hrowS : V.ownsRow w0.heap.size 9 1 (.slice (some ⟨g',0,none⟩) n cap') n (jB6 (x :: l)):=by
    have:=H3.q.2.1.2.1.1
    unfold jC4 at this
    rw [hxl] at this
    exact this
   obtain ⟨-,-,c2⟩:=jD2 H3.q.1
   obtain ⟨_,e0,cx⟩:=kFu hrowS 0 x rfl hxl
   cases e0
   have hcap:=jGe hrowS
   unfold maxLen at hcap
   obtain ⟨hcap1,hcap2⟩:=hcap
   obtain ⟨ad,had,hob,hrd⟩:=kCy hrowS hxl
   have H4:=kMf H3 rfl hob hrd
   have f2:=frozen_of_row V r 2 _ _ H3.q.1
   obtain ⟨-,c1,-⟩:=jD2 H4.ref.1
   have hrow : (V.setCell ⟨r,2,none⟩ (.slice (some ad) (n - 1) (cap' - 1))).ownsRow w0.heap.size 9 1 vt' ts.length (jB6 ts):=H4.ref.2.1
   have hB:=H4.below.size
   clear hrd hob hxl hrowS H3
   go_upto_region 8 with fail
   generalize V.setCell ⟨r,2,none⟩ (.slice (some ad) (n - 1) (cap' - 1)) = U at *
   go_wp2_with (at_builtin;refine wpList_append_own_at _ rfl _ _ 46 rfl w0.heap.size 9 i0 (.string ⟨#[]⟩) 1 16 Tryz.underlying46 hi hz0 hz1 hz2 rfl (by decide) _ _ _ rfl (hrow.alloc _) ⟨_,0,none⟩ 1 1 [.string x] rfl rfl (cell_one_new _ _ _) (by simp [Value.oneCell']) (by unfold maxLen;omega) (by omega) (by simp;omega) ?_;intro v' w3 hown' hgrow _ hat;obtain ⟨g2,cap2,rfl⟩:=ownsRow_succ hown';obtain ⟨hf,hc,H5⟩:=kA6 H4 hown' hgrow hat)
   go_ret
   exact ⟨rfl,_,_,by rw [HT.out,HS.out];exact H5⟩
  ·have hc' : (n : Int) ≤ mo:=Int.not_lt.1 hc
   have HS : Hid (jGs ⟨mo,ts,xs⟩ = ⟨mo,ts,xs⟩):=by
    show _ = _
    unfold jGs
    rw [if_neg (by rw [hxl];exact hc)]
   have hd : decide (mo < (n : Int)) = false:=decide_eq_false hc
   clear hc
   go_wp2
   go_quiet (fail)
   go_wp2
   go_ret
   refine ⟨rfl,vt',.slice (some ⟨g',0,none⟩) n cap',?_⟩
   rw [HT.out,HS.out]
   refine Law.shut (st:=⟨mo,ts,xs⟩) ?_
   exact ((H2.rin.rot.weak1 (A':=jOk _ xs) (fun h => jEy h) (fun k hk => hk)).rot.rin).drewN _
 ·rw [(jQd hm).1,jTu hm]
  go_enter Tryz.func71,Tryz.ntmps71
  go_wp2_with (go_at_call 79;refine (kCg H (by omega) s hm).mono ?_;clear H;rintro e w1 ⟨rfl,H⟩)
  go_ret
  exact ⟨rfl,_,_,H⟩
end
end
end Go.Proofs.YtkfeafmpaodagaaGreatDoor
