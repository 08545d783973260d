/- More buckets, and the moving of one of the elder ones. Conditions: at most 5000 texts, of at most 300 bytes each. The contracts of package table: Put, Get, Delete. Conditions: at most 5000 texts, of at most 300 bytes each. The contract of Put of package table. Conditions: at most 5000 texts, of at most 300 bytes each. -/
import Derived.Test.YtkfeafmpaodagaaGreatDoorG17Joined
import Derived.Test.YtkfeafmpaodagaaGreatDoorG10Joined
import Derived.Deep.RegionLaw
namespace Go.Proofs.YtkfeafmpaodagaaGreatDoor
set_option maxHeartbeats 16000000
set_option maxRecDepth 100000
section
open Go.RowKit
theorem jAb.forget {F : Nat → Prop} {w0 w : World} {A B C D : jAd} (H : jAb F w0 w (A.and (B.and (C.and D)))) : jAb F w0 w (A.and (B.and (C.and jAd.emp))) :=
 H.weak (fun h => ⟨h.1,⟨h.2.1.1,⟨h.2.1.2.1.1,trivial,fun _ _ h => h.elim⟩,fun k h1 h2 => h.2.1.2.2 k h1 (h2.imp id fun h => h.elim)⟩,fun k h1 h2 => h.2.2 k h1 (h2.imp id fun h => h.imp id fun h => h.elim)⟩) fun _ hk => hk.imp id fun h => h.imp id fun h => h.imp id fun h => h.elim
theorem jYs {F : Nat → Prop} {w0 w : World} {b : Nat} {st : Ts} (h : Tab F w0 w b st) (h8 : 8 ≤ st.buckets) (hl : st.left = 0) (hN : st.buckets ≤ 20000) :
  Calls Tryz.prog 215 #[.pointer (some ⟨b,0,none⟩)] w fun e w' => e = .returned (.tuple #[]) ∧ Tab F w0 w' b ⟨st.l,2 * st.buckets,st.buckets⟩:=by
 obtain ⟨sd,vB,vE,bv,ev,B,E,L,fit,hsd,hsh⟩:=h
 obtain ⟨gB,cB,rfl⟩:=jCk L.q.2.1.1 (by omega)
 rw [hl] at fit
 have HF:=jAa fit.grow
 obtain ⟨N,hNN⟩ : ∃ N,st.buckets = N:=⟨_,rfl⟩
 rw [hNN] at L HF h8 hN ⊢
 have L0:=L.forget
 obtain ⟨-,-,c2,c3⟩:=jIo L0.q.1
 have f3:=frozen_of_row w b 3 _ _ L0.q.1
 have L1:=L0.setAt 3 (.slice (some ⟨gB,0,none⟩) N cB)
 obtain ⟨-,-,d2,d3⟩:=jIo (show (w.setCell ⟨b,3,none⟩ (.slice (some ⟨gB,0,none⟩) N cB)).heap[b]? = some (.cells #[.int .u64 sd,.int .i64 (st.l.length : Nat),.slice (some ⟨gB,0,none⟩) N cB,.slice (some ⟨gB,0,none⟩) N cB] 98 (0,0)) from L1.q.1)
 obtain ⟨w1,hw1⟩ : ∃ w1,w.setCell ⟨b,3,none⟩ (.slice (some ⟨gB,0,none⟩) N cB) = w1:=⟨_,rfl⟩
 rw [hw1] at L1 d2 d3
 obtain ⟨w2,hr0,ho2,hg2⟩:=jO6 w1 (2 * N) (by omega)
 have hr2 : (Instr.makeSlice 96 (.int .i64 (2 * (N : Int))) (.int .i64 (2 * (N : Int)))).run Tryz.prog w1 = .ok (.slice (some ⟨w1.heap.size,0,none⟩) (2 * N) (2 * N)) w2:=by
  have e : ((2 * N : Nat) : Int) = 2 * (N : Int):=by omega
  rw [e] at hr0
  exact hr0
 have L2:=(L1.made ho2 hg2).rin.rot
 obtain ⟨-,-,d4,-⟩:=jIo (show w2.heap[b]? = some (.cells #[.int .u64 sd,.int .i64 (st.l.length : Nat),.slice (some ⟨gB,0,none⟩) N cB,.slice (some ⟨gB,0,none⟩) N cB] 98 (0,0)) from L2.q.1)
 have f4:=frozen_of_row w2 b 2 _ _ L2.q.1
 have L3:=jAa (L2.setAt 2 (.slice (some ⟨w1.heap.size,0,none⟩) (2 * N) (2 * N)))
 have e1 : wrap64 (2 * (N : Int)) = 2 * (N : Int):=by unfold wrap64;omega
 have HS:=jAa hsh
 clear L L0 L1 L2 hr0 ho2 hg2 fit hNN hsh
 go_enter Tryz.func215,Tryz.ntmps215
 go_wp2
 go_end0
 exact ⟨rfl,sd,_,_,_,_,_,_,L3.out,HF.out,hsd,HS.out⟩
theorem jAb.tail3 {F : Nat → Prop} {w0 w : World} {A B C T T' : jAd} (H : jAb F w0 w (A.and (B.and (C.and T)))) (hq : T.q w → T'.q w) (ho : ∀ k,T'.own k → T.own k) : jAb F w0 w (A.and (B.and (C.and T'))) :=
 H.weak (fun h => ⟨h.1,⟨h.2.1.1,⟨h.2.1.2.1.1,hq h.2.1.2.1.2.1,fun k h1 h2 => h.2.1.2.1.2.2 k h1 (ho k h2)⟩,fun k h1 h2 => h.2.1.2.2 k h1 (h2.imp id (ho k))⟩,fun k h1 h2 => h.2.2 k h1 (h2.imp id fun h => h.imp id (ho k))⟩) fun k hk => hk.imp id fun h => h.imp id fun h => h.imp id (ho k)
def movP (b sd many : Nat) (vB vE vm : Value) (N last : Nat) (bv ev : Nat → Value) (B E : Nat → List Kv) (M : List Kv) : jAd :=
 (arP vB N bv).and ((jD6 (· < N) (enF bv B)).and ((headT b sd many vB vE).and ((jD6 (· < last) (enF ev E)).and ((enP vm M).and ((arP vE last ev).and jAd.emp)))))
section
variable {F : Nat → Prop} {w0 w : World} {b sd many N last gE cE : Nat} {vB vE vm : Value} {bv ev : Nat → Value} {B E : Nat → List Kv} {M : List Kv}
theorem kD6 {n : Nat} {f g : Nat → Value} (h : ∀ i,i < n → f i = g i) : jGw n f = jGw n g:=List.map_congr_left fun i hi => h i (List.mem_range.1 hi)
theorem kJv (H : jAb F w0 w (jRb b sd many vB (.slice (some ⟨gE,0,none⟩) (last + 1) cE) N (last + 1) bv ev B E)) :
  (w.setCell ⟨gE,last,none⟩ (.slice none 0 0)).heap[b]? = some (.cells #[.int .u64 sd,.int .i64 (many : Nat),vB,.slice (some ⟨gE,0,none⟩) (last + 1) cE] 98 (0,0)) ∧
  jAb F w0 ((w.setCell ⟨gE,last,none⟩ (.slice none 0 0)).setCell ⟨b,3,none⟩ (.slice (some ⟨gE,0,none⟩) last cE)) (movP b sd many vB (.slice (some ⟨gE,0,none⟩) last cE) (ev last) N last bv ev B E (E last)):=by
 have H1:=H.toE.arSet (i:=last) (.slice none 0 0)
 have H2:=H1.weak1 (A':=arP (.slice (some ⟨gE,0,none⟩) last cE) last ev) (fun hq => by
  have:=jYk (k:=last) hq (Nat.le_succ _)
  rw [Nat.mul_one,kE5 _ _ _ (Nat.le_succ _),kD6 (g:=ev) (fun i hi => jG4 _ _ (Nat.ne_of_lt hi))] at this
  exact this) (fun k hk => hk)
 have H3:=(H2.rot.pick last (Nat.lt_succ_self _)).rot
 have H4:=H3.weak1 (A':=jD6 (· < last) (enF ev E)) (fun hq => ⟨fun i hi => hq.1 i ⟨Nat.lt_succ_of_lt hi,Nat.ne_of_lt hi⟩,fun i j hi hj => hq.2 i j ⟨Nat.lt_succ_of_lt hi,Nat.ne_of_lt hi⟩ ⟨Nat.lt_succ_of_lt hj,Nat.ne_of_lt hj⟩⟩) (fun k ⟨i,hi,hk⟩ => ⟨i,⟨Nat.lt_succ_of_lt hi,Nat.ne_of_lt hi⟩,hk⟩)
 have H5:=H4.rot4
 refine ⟨H5.q.1,?_⟩
 have H6:=H5.setAt 3 (.slice (some ⟨gE,0,none⟩) last cE)
 have H7:=H6.in1 (fun h => toE_q h) (fun k hk => by
  rcases hk with h | h | h | h | h | h
  ·exact .inr (.inr (.inr (.inl h)))
  ·exact .inr (.inr (.inr (.inr (.inl h))))
  ·exact .inl h
  ·exact .inr (.inl h)
  ·exact .inr (.inr (.inl h))
  ·exact .inr (.inr (.inr (.inr (.inr h)))))
 exact H7.rot.rin
theorem kJ4 (H : jAb F w0 w (movP b sd many vB vE vm N last bv ev B E M)) : jAb F w0 w (jRb b sd many vB vE N last bv ev B E):=by
 have H1:=H.rin.rot
 exact H1.tail3 (fun h => ⟨h.2.1.2.1.1,⟨h.1,trivial,fun _ _ h => h.elim⟩,fun k h1 h2 => h2.elim (fun h3 => h.2.2 k h3 (.inr (.inl h1))) fun h => h.elim⟩) fun k hk => hk.elim (fun h => .inr (.inr (.inl h))) fun h => h.elim .inl fun h => h.elim
end
theorem kOx {F : Nat → Prop} {w0 w w1 : World} {R : jAd} {g N cap i : Nat} {bv : Nat → Value} {B : Nat → List Kv} {p : Kv} {v' : Value} {tmp : Obj} (L : jAb F w0 w ((arP (.slice (some ⟨g,0,none⟩) N cap) N bv).and ((jD6 (· < N) (enF bv B)).and R))) (hi : i < N)
  (hown : w1.ownsRow 0 184 2 v' ((B i).length + 1) (enV (B i) ++ [.string p.1,.pointer (some ⟨Int.toNat p.2,0,none⟩)])) (hgrow : (w.alloc tmp).grownBy w1 (bv i).ownBlock) (hat : v'.ownBlock = (bv i).ownBlock ∨ v'.ownBlock = some (w.alloc tmp).heap.size) :
  w1.cell? ⟨g,i,none⟩ = some (bv i) ∧ w1.frozen? ⟨g,i,none⟩ = false ∧ R.q w1 ∧ jAb F w0 (w1.setCell ⟨g,i,none⟩ v') ((arP (.slice (some ⟨g,0,none⟩) N cap) N (jDm bv i v')).and ((jD6 (· < N) (enF (jDm bv i v') (jDm B i (B i ++ [p])))).and R)):=by
 have L1:=((L.sel hi).rot.app hown hgrow hat).rot
 obtain ⟨c,f⟩:=jGc L1.q.1 hi
 refine ⟨c,f,L1.q.2.1.2.1.2.1,?_⟩
 have L2:=L1.arSet (i:=i) v'
 have e1 : (B i).length + 1 = (B i ++ [p]).length:=by simp
 have e2 : enV (B i) ++ [.string p.1,.pointer (some ⟨Int.toNat p.2,0,none⟩)] = enV (B i ++ [p]):=by rw [jJ8,kBe]
 rw [e1,e2] at L2
 exact L2.unsel
theorem kH8 {w : World} {k : Nat} {t : TypeId} {x y : Value} (h : w.heap[k]? = some (.cells #[x,y] t (0,0))) : w.cell? ⟨k,0,none⟩ = some x ∧ w.cell? ⟨k,1,none⟩ = some y:=by
 simp [World.cell?,h]
theorem kGs {F : Nat → Prop} {w0 w : World} {b : Nat} {st : Ts} {last : Nat} (h : Tab F w0 w b st) (hG : jHi st) (hS : jCj st 5000) (hl : st.left = last + 1) :
  Calls Tryz.prog 120 #[.pointer (some ⟨b,0,none⟩)] w fun e w' => e = .returned (.tuple #[]) ∧ Tab F w0 w' b ⟨st.l,st.buckets,last⟩:=by
 obtain ⟨sd,vB,vE,bv,ev,B,E,L,fit,hsd,hsh⟩:=h
 have h8:=hG.eight
 have hN:=hS.buckets
 have hlen:=hS.len
 have hroom:=hG.room
 obtain ⟨gB,cB,rfl⟩:=jCk L.q.2.1.1 (by omega)
 obtain ⟨gE,cE,rfl⟩:=jCk L.q.2.1.2.1.2.1.1 (by omega)
 rw [hl] at L fit hroom
 obtain ⟨N,hNN⟩ : ∃ N,st.buckets = N:=⟨_,rfl⟩
 rw [hNN] at L fit h8 hN hroom ⊢
 obtain ⟨-,-,-,c3⟩:=jIo L.q.1
 obtain ⟨ce,fe⟩:=jGc L.toE.q.1 (Nat.lt_succ_self last)
 obtain ⟨h1,L1⟩:=kJv L
 obtain ⟨-,-,-,d3⟩:=jIo h1
 have f3:=frozen_of_row _ b 3 _ _ h1
 have hcap:=jGe L.toE.q.1
 have hM0:=fit.moving
 have hMl : (E last).length ≤ 5000:=by
  have:=fit.perm.length_eq
  rw [jEx] at this
  simp at this
  omega
 have HM:=jAa hM0
 obtain ⟨M,hM⟩ : ∃ M,E last = M:=⟨_,rfl⟩
 obtain ⟨vm,hvm⟩ : ∃ v,ev last = v:=⟨_,rfl⟩
 rw [hM] at L1 HM hMl
 rw [hvm] at L1 ce
 have hrowM : World.ownsRow _ 0 184 2 vm M.length (enV M):=L1.q.2.1.2.1.2.1.2.1.1
 obtain ⟨pm,cm,rfl⟩:=jAr hrowM
 obtain ⟨n,hn⟩ : ∃ n,M.length = n:=⟨_,rfl⟩
 rw [hn] at L1 hMl ce
 have HL:=jAa L1
 have HS:=jAa hsh
 have hlc : (last : Int) ≤ (cE : Int):=by omega
 have e1 : wrap64 (((last + 1 : Nat) : Int) - 1) = (last : Int):=by unfold wrap64;omega
 clear L L1 hM0 fit hsh h1 hrowM hvm hM hNN
 go_enter Tryz.func120,Tryz.ntmps120
 go_wp2
 go_loopw [5,6,39] (fun _ _ i wr => ∃ (j : Nat) (bv' : Nat → Value) (B' : Nat → List Kv),j ≤ n ∧ i = .int .i64 j ∧ Hid (jAb F w0 wr (movP b sd st.l.length (.slice (some ⟨gB,0,none⟩) N cB) (.slice (some ⟨gE,0,none⟩) last cE) (.slice pm n cm) N last bv' ev B' E M)) ∧ Hid (jK4 sd N last B' E (M.drop j) st.l)) (fun _ _ i _ => n - (intOf i).toNat)
 case atStart => exact ⟨0,bv,B,Nat.zero_le _,rfl,HL,HM⟩
 case round =>
  clear HL HM d3 f3 c3 ce fe
  obtain ⟨j,bv,B,hj,rfl,HL,HM⟩:=hrel
  by_cases hlt : j < n
  ·have hji : (j : Int) < (n : Int):=by omega
   have hp : M[j]? = some (M[j]'(by omega)):=List.getElem?_eq_getElem _
   have hdrop : M.drop j = M[j]'(by omega) :: M.drop (j + 1):=List.drop_eq_getElem_cons _
   rw [hdrop] at HM
   have hrow : wr.ownsRow 0 184 2 (.slice pm n cm) n (enV M):=by
    have:=HL.out.q.2.1.2.1.2.1.2.1.1
    unfold enP jB2 at this
    rw [hn] at this
    exact this
   obtain ⟨ga,rfl,c1,c2⟩:=jJ6 hrow hp
   generalize M[j]'(by omega) = p at *
   obtain ⟨a,y⟩:=p
   have hin : (a,y) ∈ st.l:=HM.out.perm.mem_iff.1 (List.mem_append_right _ List.mem_cons_self)
   have hak : a.size ≤ 140737488351232:=HS.out _ hin
   have hpl:=HM.out.todo (a,y) List.mem_cons_self
   dsimp only at hpl
   have hiN : plN sd N a < N:=Nat.mod_lt _ (by omega)
   have hBl : (B (plN sd N a)).length ≤ 5000:=by
    obtain ⟨rest,hr⟩:=jK1 B _ N hiN
    have h1:=(hr (B (plN sd N a))).length_eq
    rw [jHk] at h1
    have h2:=HM.out.perm.length_eq
    simp at h1 h2
    omega
   have HM2:=jAa (HM.out.step (by omega))
   have L0:=(HL.out.box (.cells #[.string a,.pointer (some ⟨Int.toNat y,0,none⟩)] 184)).rot.rin
   have HP:=jAa (jUo L0.q.2.1.2.1.2.1.1 hsd h8 (by omega) a hak (Nat.le_of_eq hpl.symm))
   obtain ⟨i,hi⟩ : ∃ i,plN sd N a = i:=⟨_,rfl⟩
   dsimp only at HM2
   rw [hi] at HP hiN hBl HM2
   replace L0:=jAa L0
   clear hp hdrop hrow HL HM hin hak hpl hi
   obtain ⟨i0,hi0,hz0,hz1,hz2⟩:=info_parts jJe
   go_upto_region 9 with (go_at_call 121;refine HP.out.mono ?_;rintro e w1 ⟨rfl,hg1⟩)
   have L1:=L0.out.step hg1
   clear L0 HP c1 c2
   have Ld:=L1.drew
   have La:=(L1.alloc (.cells #[.string a,.pointer (some ⟨Int.toNat y,0,none⟩)] 184)).drew
   obtain ⟨x0,x1⟩:=kH8 Ld.q.2.1.2.1.1
   obtain ⟨y0,y1⟩:=kH8 La.q.2.1.2.1.1
   have cb:=(jGc Ld.q.1 hiN).1
   have ca:=(jGc La.q.1 hiN).1
   have hrow : w1.drew.ownsRow 0 184 2 (bv i) (B i).length (enV (B i)):=(Ld.sel hiN).q.2.1.1
   clear La L1
   go_region_law ((refine jFk _ 53 (by rfl) rfl _ _ 181 (by rfl) 0 184 i0 (.agg #[.string ⟨#[]⟩,.pointer none]) 2 24 Tryz.underlying181 hi0 hz0 hz1 hz2 rfl (by decide) (bv i) _ _ (by rfl) (hrow.alloc _) ⟨_,0,none⟩ 1 1 [.string a,.pointer (some ⟨Int.toNat y,0,none⟩)] (by rfl) rfl (cell_two_new _ _ _ _) (by simp [Value.oneCell']) (by unfold maxLen;omega) (by omega) (Nat.zero_le _) ?_;intro v' w3 hown' hgrow hat;obtain ⟨g',cap',rfl⟩:=ownsRow_succ hown';obtain ⟨cc,ff,nq,L3⟩:=kOx (p:=(a,y)) Ld hiN hown' hgrow hat;replace L3:=jAa L3.rin.rot.right))
   all_goals
    clear cc ff nq hown' hgrow hat x0 x1 y0 y1 cb ca Ld hrow
    go_wp2
    go_roundw
    case rel => exact ⟨j + 1,_,_,hlt,by go_num,L3,HM2⟩
    case measure => simp [intOf];omega
  ·obtain rfl : j = n:=by omega
   have hji : ¬ (j : Int) < (j : Int):=by omega
   have HD : Hid (jK4 sd N last B E [] st.l):=by
    have h:=HM.out
    rwa [List.drop_of_length_le (by omega)] at h
   clear HM hlt
   go_wp2
   go_end0
   exact ⟨rfl,sd,_,_,_,_,_,_,kJ4 HL.out,HD.out.done,hsd,HS.out⟩
end
section
open Go.RowKit
theorem kIn {F : Nat → Prop} {w0 w : World} {b : Nat} {st : Ts} (h : Tab F w0 w b st) (hl : st.left = 0) :
  Calls Tryz.prog 120 #[.pointer (some ⟨b,0,none⟩)] w fun e w' => e = .returned (.tuple #[]) ∧ w' = w:=by
 obtain ⟨sd,vB,vE,bv,ev,B,E,L,fit,hsd,hsh⟩:=h
 obtain ⟨-,-,-,c3⟩:=jIo L.q.1
 obtain ⟨a,c,rfl⟩:=jAr L.q.2.1.2.1.2.1.1
 rw [hl] at c3
 clear L fit hsh
 go_enter Tryz.func120,Tryz.ntmps120
 go_wp2
 (try simp only [Exit.inBlock,Exit.then])
 refine bodyPost_ret (results_none rfl _ _ _) rfl ?_
 exact ⟨rfl,rfl⟩
theorem jR4 {F : Nat → Prop} {w0 w : World} {b : Nat} {st : Ts} (h : Tab F w0 w b st) (hG : jHi st) (hS : jCj st 5000) :
  Calls Tryz.prog 120 #[.pointer (some ⟨b,0,none⟩)] w fun e w' => e = .returned (.tuple #[]) ∧ Tab F w0 w' b (jEc st):=by
 by_cases hl : st.left = 0
 ·refine (kIn h hl).mono fun e w' ⟨he,hw⟩ => ⟨he,?_⟩
  have e : jEc st = st:=by unfold jEc;rw [hl];cases st;simp at hl;rw [hl]
  rw [hw,e]
  exact h
 ·obtain ⟨last,hm⟩ : ∃ m,st.left = m + 1:=⟨st.left - 1,by omega⟩
  refine (kGs h hG hS hm).mono fun e w' ⟨he,hw⟩ => ⟨he,?_⟩
  have e : jEc st = ⟨st.l,st.buckets,last⟩:=by unfold jEc;rw [hm];rfl
  rw [e]
  exact hw
def jHg (F : Nat → Prop) (w0 w : World) (b : Nat) (st : Ts) (many : Nat) : Prop:=∃ sd vB vE bv ev B E,jAb F w0 w (jRb b sd many vB vE st.buckets st.left bv ev B E) ∧ jFa sd st.buckets st.left B E st.l ∧ sd < 18446744073709551616 ∧ ∀ p ∈ st.l,p.1.size ≤ 140737488351232
theorem jHg.tab {F : Nat → Prop} {w0 w : World} {b : Nat} {st : Ts} (h : jHg F w0 w b st st.l.length) : Tab F w0 w b st:=by
 obtain ⟨sd,vB,vE,bv,ev,B,E,h1,h2,h3,h4⟩:=h
 exact ⟨sd,vB,vE,bv,ev,B,E,h1,h2,h3,h4⟩
theorem jHg.many {F : Nat → Prop} {w0 w : World} {b m : Nat} {st : Ts} (h : jHg F w0 w b st m) : w.cell? ⟨b,1,none⟩ = some (.int .i64 (m : Nat)) ∧ w.frozen? ⟨b,1,none⟩ = false ∧ ∀ m',jHg F w0 (w.setCell ⟨b,1,none⟩ (.int .i64 (m' : Nat))) b st m':=by
 obtain ⟨sd,vB,vE,bv,ev,B,E,h1,h2,h3,h4⟩:=h
 exact ⟨(jIo h1.q.1).2.1,frozen_of_row _ _ _ _ _ h1.q.1,fun m' => ⟨sd,vB,vE,bv,ev,B,E,h1.setAt 1 (.int .i64 (m' : Nat)),h2,h3,h4⟩⟩
theorem Tab.cells {F : Nat → Prop} {w0 w : World} {b : Nat} {st : Ts} (h : Tab F w0 w b st) : ∃ aB cB aE cE,w.cell? ⟨b,1,none⟩ = some (.int .i64 (st.l.length : Nat)) ∧ w.cell? ⟨b,2,none⟩ = some (.slice aB st.buckets cB) ∧ w.cell? ⟨b,3,none⟩ = some (.slice aE st.left cE):=by
 obtain ⟨sd,vB,vE,bv,ev,B,E,L,fit,hsd,hsh⟩:=h
 obtain ⟨-,c1,c2,c3⟩:=jIo L.q.1
 obtain ⟨aB,cB,rfl⟩:=jAr L.q.2.1.1
 obtain ⟨aE,cE,rfl⟩:=jAr L.q.2.1.2.1.2.1.1
 exact ⟨aB,cB,aE,cE,c1,c2,c3⟩
def jJ3 (F : Nat → Prop) (w0 w : World) (b : Nat) (st : Ts) (k : ByteArray) (g i : Nat) : Prop :=
 ∃ n cap f l R,jAb F w0 w ((arP (.slice (some ⟨g,0,none⟩) n cap) n f).and ((enP (f i) l).and R)) ∧ i < n ∧ l.length ≤ 5000 ∧ jTk st.l l k ∧ (∃ rest,st.l.Perm (l ++ rest)) ∧
  ∀ w' u l' L',jAb F w0 w' ((arP (.slice (some ⟨g,0,none⟩) n cap) n (jDm f i u)).and ((enP u l').and R)) → (∀ p ∈ l',p.1 = k ∨ p ∈ l) → (∀ rest,st.l.Perm (l ++ rest) → (l' ++ rest).Perm L') → (∀ p ∈ L',p.1.size ≤ 140737488351232) → jHg F w0 w' b ⟨L',st.buckets,st.left⟩ st.l.length
theorem jJ3.step {F : Nat → Prop} {w0 w w' : World} {b : Nat} {st : Ts} {k : ByteArray} {g i : Nat} (h : jJ3 F w0 w b st k g i) (hg : w.grownBy w' none) : jJ3 F w0 w' b st k g i:=by
 obtain ⟨n,cap,f,l,R,L,r⟩:=h
 exact ⟨n,cap,f,l,R,L.step hg,r⟩
theorem jQ9 {F : Nat → Prop} {w0 w : World} {b : Nat} {st : Ts} (h : Tab F w0 w b st) (hG : jHi st) (hS : jCj st 5000) (k : ByteArray) (hk : k.size ≤ 140737488351232) :
  Calls Tryz.prog 121 #[.pointer (some ⟨b,0,none⟩),.string k] w fun e w' => ∃ g i,e = .returned (.pointer (some ⟨g,i,none⟩)) ∧ jJ3 F w0 w' b st k g i:=by
 obtain ⟨sd,vB,vE,bv,ev,B,E,L,fit,hsd,hsh⟩:=h
 have h8:=hG.eight
 have hN:=hS.buckets
 have hlen:=hS.len
 have hpN : plN sd st.buckets k < st.buckets:=Nat.mod_lt _ (by omega)
 obtain ⟨gB,cB,rfl⟩:=jCk L.q.2.1.1 (by omega)
 by_cases hp : plN sd (st.buckets / 2) k < st.left
 ·obtain ⟨gE,cE,rfl⟩:=jCk L.q.2.1.2.1.2.1.1 (by omega)
  refine (kGp L.q.1 hsd h8 (by omega) k hk hp).mono fun e w' ⟨he,hg⟩ => ⟨gE,_,he,jJ3.step ?_ hg⟩
  obtain ⟨rest,hr1,hr2⟩:=fit.restE hp
  refine ⟨_,cE,ev,_,_,L.toE.sel hp,hp,?_,fit.oneE hG.rise hp,⟨rest,hr1⟩,fun w' u l' L' H hin hperm hshort => ?_⟩
  ·have:=hr1.length_eq
   simp at this
   omega
  ·refine ⟨sd,_,_,bv,_,B,_,H.unsel.fromE,fit.setE (fun p hpl => ?_) ((hr2 l').trans (hperm rest hr1)),hsd,hshort⟩
   rcases hin p hpl with rfl | h
   ·rfl
   ·exact fit.inE _ hp p h
 ·have hp' : st.left ≤ plN sd (st.buckets / 2) k:=by omega
  obtain ⟨aE,cE,rfl⟩:=jAr L.q.2.1.2.1.2.1.1
  refine (jUo L.q.1 hsd h8 (by omega) k hk hp').mono fun e w' ⟨he,hg⟩ => ⟨gB,_,he,jJ3.step ?_ hg⟩
  obtain ⟨rest,hr1,hr2⟩:=fit.restB hpN
  refine ⟨_,cB,bv,_,_,L.rot.rin.sel hpN,hpN,?_,fit.oneB hG.rise hp',⟨rest,hr1⟩,fun w' u l' L' H hin hperm hshort => ?_⟩
  ·have:=hr1.length_eq
   simp at this
   omega
  ·refine ⟨sd,_,_,_,ev,_,E,H.unsel.rin.rot,fit.setB (fun p hpl => ?_) ((hr2 l').trans (hperm rest hr1)),hsd,hshort⟩
   rcases hin p hpl with rfl | h
   ·exact ⟨rfl,hp'⟩
   ·exact fit.inB _ hpN p h
theorem kK5 {F : Nat → Prop} {w0 w : World} {b : Nat} {st : Ts} {k : ByteArray} {g i : Nat} (h : jJ3 F w0 w b st k g i) (hsh : ∀ p ∈ st.l,p.1.size ≤ 140737488351232) :
  Calls Tryz.prog 122 #[.pointer (some ⟨g,i,none⟩),.string k] w fun e w' => e = .returned (.tuple #[jJm (jEh k st.l),.bool (jE3 st k)]) ∧ jHg F w0 w' b st st.l.length:=by
 obtain ⟨n,cap,f,l,R,L,hi,hl,one,⟨rest,hr⟩,back⟩:=h
 obtain ⟨e1,e2⟩:=jRr one hr
 refine (kL1 L.q.2.1.1 (by omega) k g i (jGc L.q.1 hi).1).mono fun e w' ⟨he,hg⟩ => ⟨?_,?_⟩
 ·rw [he,e1,e2]
  rfl
 ·have:=back w' (f i) l st.l (by rw [jHk];exact L.step hg) (fun p hp => .inr hp) (fun rest h => h.symm) hsh
  exact this
theorem kKr {F : Nat → Prop} {w0 w : World} {b : Nat} {st : Ts} {k : ByteArray} {g i : Nat} (h : jJ3 F w0 w b st k g i) (hsh : ∀ p ∈ st.l,p.1.size ≤ 140737488351232) (hk : k.size ≤ 140737488351232) (v : Int) :
  (Calls Tryz.prog 214 #[.pointer (some ⟨g,i,none⟩),.string k,.pointer (some ⟨Int.toNat v,0,none⟩)] w fun e w' => e = .returned (.bool (!jE3 st k)) ∧ jHg F w0 w' b ⟨jEs k v st.l,st.buckets,st.left⟩ st.l.length) ∧ (jEs k v st.l).length = st.l.length + (if jE3 st k then 0 else 1):=by
 obtain ⟨n,cap,f,l,R,L,hi,hl,one,⟨rest,hr⟩,back⟩:=h
 obtain ⟨e1,e2⟩:=jRr one hr
 obtain ⟨p1,p2⟩:=jYl one v hr
 refine ⟨(kI5 L hi (by omega) k v).mono fun e w' ⟨he,u,H⟩ => ⟨?_,?_⟩,?_⟩
 ·rw [he,e2]
  rfl
 ·exact back w' u _ _ H (fun p hp => kKe hp) (fun rest h => (jYl one v h).1) (fun p hp => by
   rcases (jKd one.rise).1 hp with rfl | ⟨h,_⟩
   ·exact hk
   ·exact hsh p h)
 ·rw [p2,e2]
  rfl
theorem kHe {F : Nat → Prop} {w0 w : World} {b : Nat} {st : Ts} {k : ByteArray} {g i : Nat} (h : jJ3 F w0 w b st k g i) (hsh : ∀ p ∈ st.l,p.1.size ≤ 140737488351232) :
  (Calls Tryz.prog 169 #[.pointer (some ⟨g,i,none⟩),.string k] w fun e w' => e = .returned (.bool (jE3 st k)) ∧ jHg F w0 w' b ⟨jG0 k st.l,st.buckets,st.left⟩ st.l.length) ∧ st.l.length = (jG0 k st.l).length + (if jE3 st k then 1 else 0):=by
 obtain ⟨n,cap,f,l,R,L,hi,hl,one,⟨rest,hr⟩,back⟩:=h
 obtain ⟨e1,e2⟩:=jRr one hr
 obtain ⟨p1,p2⟩:=jXc one hr
 refine ⟨(kEq L hi (by omega) k).mono fun e w' ⟨he,u,H⟩ => ⟨?_,?_⟩,?_⟩
 ·rw [he,e2]
  rfl
 ·exact back w' u _ _ H (fun p hp => .inr (kMr hp)) (fun rest h => (jXc one h).1) (fun p hp => hsh p (List.mem_filter.1 hp).1)
 ·rw [e2] at p2
  exact p2
theorem Tab.short {F : Nat → Prop} {w0 w : World} {b : Nat} {st : Ts} (h : Tab F w0 w b st) : ∀ p ∈ st.l,p.1.size ≤ 140737488351232:=by
 obtain ⟨sd,vB,vE,bv,ev,B,E,L,fit,hsd,hsh⟩:=h
 exact hsh
section
variable {w : World} {b : Nat} {own : Nat → Prop} {st : Ts}
theorem Tb0.good (h : Tb0 w b own st) : jHi st:=by
 obtain ⟨_,_,_,_,_,_,_,_,_,_,_,_,_,G⟩:=h
 exact G
theorem kLq (h : Tb0 w b own st) (hS : jCj st 5000) (s : ByteArray) (hs : s.size ≤ 140737488351232) : Calls Tryz.prog 86 #[.pointer (some ⟨b,0,none⟩),.string s] w fun e w' => e = .returned (.tuple #[jJm (jEh s st.l),.bool (jE3 st s)]) ∧ ∃ own',Tb0 w' b own' (jEc st) ∧ Gr own w w' ∧ jBm w own own':=by
 have hG:=h.good
 have hG1:=jPl hG
 have hS1:=jDa hS
 have HM:=jAa (jR4 h.tab hG hS)
 have HP:=jAa (fun W (t : Tab own w W b (jEc st)) => jQ9 t hG1 hS1 s hs)
 have HQ:=jAa (fun W g i (t : jJ3 own w W b (jEc st) s g i) => kK5 t h.tab.short)
 have HG:=jAa hG1
 clear h hG hG1 hS hS1
 go_enter Tryz.func86,Tryz.ntmps86
 go_wp2_with (first
  | (go_at_call 120;refine HM.out.mono ?_;rintro e w1 ⟨rfl,t1⟩;replace t1:=jAa t1)
  | (go_at_call 121;refine (HP.out _ t1.out).mono ?_;rintro e w2 ⟨g,i,rfl,t2⟩;replace t2:=jAa t2)
  | (go_at_call 122;refine (HQ.out _ _ _ t2.out).mono ?_;rintro e w3 ⟨rfl,t3⟩;replace t3:=jAa t3))
 go_ret2
 exact ⟨rfl,t3.out.tab.done HG.out⟩
theorem kI8 (h : Tb0 w b own st) (hS : jCj st 5000) (s : ByteArray) (hs : s.size ≤ 140737488351232) : Calls Tryz.prog 140 #[.pointer (some ⟨b,0,none⟩),.string s] w fun e w' => e = .returned (.bool (jE3 st s)) ∧ ∃ own',Tb0 w' b own' (delT st s) ∧ Gr own w w' ∧ jBm w own own':=by
 have hG:=h.good
 have hG1:=jPl hG
 have hS1:=jDa hS
 have HM:=jAa (jR4 h.tab hG hS)
 have HP:=jAa (fun W (t : Tab own w W b (jEc st)) => jQ9 t hG1 hS1 s hs)
 have HQ:=jAa (fun W g i (t : jJ3 own w W b (jEc st) s g i) => kHe t h.tab.short)
 have HG:=jAa (kLo hG s)
 have hlen:=hS.len
 have HE : Hid (delT st s = ⟨jG0 s st.l,st.buckets,st.left - 1⟩):=rfl
 cases hh : jE3 st s with
 | true =>
  have hh1 : jE3 (jEc st) s = true:=hh
  rw [hh1] at HQ
  clear h hG hG1 hS hS1 hh hh1
  go_enter Tryz.func140,Tryz.ntmps140
  go_wp2_with (first
   | (go_at_call 120;refine HM.out.mono ?_;rintro e w1 ⟨rfl,t1⟩;replace t1:=jAa t1)
   | (go_at_call 121;refine (HP.out _ t1.out).mono ?_;rintro e w2 ⟨g,i,rfl,t2⟩;replace t2:=jAa t2)
   | (go_at_call 169;obtain ⟨q1,q2⟩:=HQ.out _ _ _ t2.out;refine q1.mono ?_;rintro e w3 ⟨rfl,t3⟩;obtain ⟨m1,m2,m3⟩:=t3.many;have q3 : (jEc st).l.length = (jG0 s st.l).length + 1:=q2;rw [q3] at m1;replace m3:=jAa (m3 (jG0 s st.l).length);obtain ⟨d,hd⟩ : ∃ d,(jG0 s st.l).length = d:=⟨_,rfl⟩;have hd5 : d < 5001:=(by have : st.l.length ≤ 5000:=hlen;have q4 : st.l.length = (jG0 s st.l).length + 1:=q2;omega);rw [hd] at m1 m3;have e1 : wrap64 ((d : Int) + 1 - 1) = (d : Int):=(by unfold wrap64;omega);have e2 : wrap64 (((d + 1 : Nat) : Int) - 1) = (d : Int):=(by unfold wrap64;omega);clear q1 q2 q3 t3))
  go_ret
  refine ⟨rfl,?_⟩
  rw [← hd] at m3
  rw [HE.out,← hd]
  rw [HE.out] at HG
  exact (jHg.tab m3.out).done HG.out
 | false =>
  have hh1 : jE3 (jEc st) s = false:=hh
  rw [hh1] at HQ
  clear h hG hG1 hS hS1 hh hh1
  go_enter Tryz.func140,Tryz.ntmps140
  go_wp2_with (first
   | (go_at_call 120;refine HM.out.mono ?_;rintro e w1 ⟨rfl,t1⟩;replace t1:=jAa t1)
   | (go_at_call 121;refine (HP.out _ t1.out).mono ?_;rintro e w2 ⟨g,i,rfl,t2⟩;replace t2:=jAa t2)
   | (go_at_call 169;obtain ⟨q1,q2⟩:=HQ.out _ _ _ t2.out;refine q1.mono ?_;rintro e w3 ⟨rfl,t3⟩;have q3 : (jEc st).l.length = (jG0 s st.l).length:=q2;rw [q3] at t3;replace t3:=jAa t3;clear q1 q2 q3))
  go_ret
  refine ⟨rfl,?_⟩
  rw [HE.out]
  rw [HE.out] at HG
  exact (jHg.tab t3.out).done HG.out
end
end
section
open Go.RowKit
theorem Tab.drewN {F : Nat → Prop} {w0 w : World} {b : Nat} {st : Ts} (h : Tab F w0 w b st) (j : Nat) : Tab F w0 (w.drewN j) b st:=h.step ⟨rfl,rfl,rfl,Nat.le_refl _,fun _ _ _ => rfl⟩
section
variable {w : World} {b : Nat} {own : Nat → Prop} {st : Ts}
theorem kKu (h : Tb0 w b own st) (hS : jCj st 5000) (s : ByteArray) (hs : s.size ≤ 140737488351232) (v : Int) : Calls Tryz.prog 196 #[.pointer (some ⟨b,0,none⟩),.string s,.pointer (some ⟨Int.toNat v,0,none⟩)] w fun e w' => (∃ x,e = .returned x) ∧ ∃ own',Tb0 w' b own' (putT st s v) ∧ Gr own w w' ∧ jBm w own own':=by
 have hG:=h.good
 have hG1:=jPl hG
 have hS1:=jDa hS
 have h8:=hG.eight
 have hN:=hS.buckets
 have hlen:=hS.len
 have HM:=jAa (jR4 h.tab hG hS)
 have HP:=jAa (fun W (t : Tab own w W b (jEc st)) => jQ9 t hG1 hS1 s hs)
 have HQ:=jAa (fun W g i (t : jJ3 own w W b (jEc st) s g i) => kKr t h.tab.short hs v)
 have HG:=jAa (kK6 hG s v)
 have hpl:=jR5 s v st.l
 obtain ⟨st',hst⟩ : ∃ st' : Ts,st' = ⟨jEs s v st.l,st.buckets,st.left - 1⟩:=⟨_,rfl⟩
 have HE : Hid (putT st s v = jFn st'):=by
  show _ = _
  rw [hst]
  rfl
 have HT : Hid (∀ W g i,jJ3 own w W b (jEc st) s g i → (Calls Tryz.prog 214 #[.pointer (some ⟨g,i,none⟩),.string s,.pointer (some ⟨Int.toNat v,0,none⟩)] W fun e w' => e = .returned (.bool (!jE3 st s)) ∧ jHg own w w' b st' st.l.length) ∧ st'.l.length = st.l.length + (if jE3 st s then 0 else 1)):=by
  intro W g i t
  rw [hst]
  exact HQ.out W g i t
 have hpl' : st'.l.length ≤ 5001:=by rw [hst];show (jEs s v st.l).length ≤ 5001;omega
 have h8' : 8 ≤ st'.buckets:=by rw [hst];exact h8
 have hN' : st'.buckets ≤ 8 + 2 * 5000:=by rw [hst];exact hN
 have hcase : (2 * st'.buckets < st'.l.length ∧ st'.left = 0) ∨ (2 * st'.buckets < st'.l.length ∧ st'.left ≠ 0) ∨ ¬ 2 * st'.buckets < st'.l.length:=by omega
 clear h hG hG1 hS hS1 HQ hst h8 hN hpl
 cases hh : jE3 st s with
 | true =>
  rw [hh] at HT
  clear hh
  rcases hcase with ⟨hA,hB⟩ | ⟨hA,hB⟩ | hA
  ·go_enter Tryz.func196,Tryz.ntmps196
   go_upto_region 3 with (first
    | (go_at_call 120;refine HM.out.mono ?_;rintro e w1 ⟨rfl,t1⟩;replace t1:=jAa t1)
    | (go_at_call 121;refine (HP.out _ t1.out).mono ?_;rintro e w2 ⟨g,i,rfl,t2⟩;replace t2:=jAa t2)
    | (go_at_call 214;obtain ⟨q1,q2⟩:=HT.out _ _ _ t2.out;refine q1.mono ?_;rintro e w3 ⟨rfl,t3⟩;have q3 : st'.l.length = st.l.length:=q2;rw [← q3] at t3;replace t3:=jAa (jHg.tab t3);clear q1 q2 q3))
   obtain ⟨aB,cB,aE,cE,c1,c2,c3⟩:=t3.out.cells
   obtain ⟨m,hm⟩ : ∃ m,st'.l.length = m:=⟨_,rfl⟩
   obtain ⟨N,hNN⟩ : ∃ N,st'.buckets = N:=⟨_,rfl⟩
   rw [hm] at c1 hA hpl'
   rw [hNN] at c2 hA h8' hN'
   rw [hB] at c3
   have e2 : wrap64 (2 * (N : Int)) = 2 * (N : Int):=by unfold wrap64;omega
   have d1 : decide (2 * (N : Int) < (m : Int)) = true:=decide_eq_true (by omega)
   have HGr:=jAa (fun W (t : Tab own w W b st') => jYs t (by rw [hNN];exact h8') hB (by rw [hNN];omega))
   go_quiet (fail)
   go_wp2_with (go_at_call 215;refine (HGr.out _ (t3.out.drewN nq)).mono ?_;rintro e w4 ⟨rfl,t4⟩;replace t4:=jAa t4)
   go_end0
   have hgt : jFn st' = ⟨st'.l,2 * st'.buckets,st'.buckets⟩:=by unfold jFn;rw [if_pos ⟨by omega,hB⟩]
   rw [HE.out,hgt]
   have h:=HG.out
   rw [HE.out,hgt] at h
   exact ⟨⟨_,rfl⟩,t4.out.done h⟩
  ·go_enter Tryz.func196,Tryz.ntmps196
   go_upto_region 3 with (first
    | (go_at_call 120;refine HM.out.mono ?_;rintro e w1 ⟨rfl,t1⟩;replace t1:=jAa t1)
    | (go_at_call 121;refine (HP.out _ t1.out).mono ?_;rintro e w2 ⟨g,i,rfl,t2⟩;replace t2:=jAa t2)
    | (go_at_call 214;obtain ⟨q1,q2⟩:=HT.out _ _ _ t2.out;refine q1.mono ?_;rintro e w3 ⟨rfl,t3⟩;have q3 : st'.l.length = st.l.length:=q2;rw [← q3] at t3;replace t3:=jAa (jHg.tab t3);clear q1 q2 q3))
   obtain ⟨aB,cB,aE,cE,c1,c2,c3⟩:=t3.out.cells
   obtain ⟨m,hm⟩ : ∃ m,st'.l.length = m:=⟨_,rfl⟩
   obtain ⟨N,hNN⟩ : ∃ N,st'.buckets = N:=⟨_,rfl⟩
   rw [hm] at c1 hA hpl'
   rw [hNN] at c2 hA h8' hN'
   obtain ⟨lf,hlf⟩ : ∃ lf,st'.left = lf:=⟨_,rfl⟩
   rw [hlf] at c3 hB
   have e2 : wrap64 (2 * (N : Int)) = 2 * (N : Int):=by unfold wrap64;omega
   have d1 : decide (2 * (N : Int) < (m : Int)) = true:=decide_eq_true (by omega)
   have d2 : ((lf : Int) == 0) = false:=beq_eq_false_iff_ne.2 (by omega)
   go_quiet (fail)
   go_wp2
   go_end0
   have hgt : jFn st' = st':=by unfold jFn;rw [if_neg (fun hc => hB (hlf ▸ hc.2))]
   rw [HE.out,hgt]
   have h:=HG.out
   rw [HE.out,hgt] at h
   exact ⟨⟨_,rfl⟩,(t3.out.drewN nq).done h⟩
  ·go_enter Tryz.func196,Tryz.ntmps196
   go_upto_region 3 with (first
    | (go_at_call 120;refine HM.out.mono ?_;rintro e w1 ⟨rfl,t1⟩;replace t1:=jAa t1)
    | (go_at_call 121;refine (HP.out _ t1.out).mono ?_;rintro e w2 ⟨g,i,rfl,t2⟩;replace t2:=jAa t2)
    | (go_at_call 214;obtain ⟨q1,q2⟩:=HT.out _ _ _ t2.out;refine q1.mono ?_;rintro e w3 ⟨rfl,t3⟩;have q3 : st'.l.length = st.l.length:=q2;rw [← q3] at t3;replace t3:=jAa (jHg.tab t3);clear q1 q2 q3))
   obtain ⟨aB,cB,aE,cE,c1,c2,c3⟩:=t3.out.cells
   obtain ⟨m,hm⟩ : ∃ m,st'.l.length = m:=⟨_,rfl⟩
   obtain ⟨N,hNN⟩ : ∃ N,st'.buckets = N:=⟨_,rfl⟩
   rw [hm] at c1 hA hpl'
   rw [hNN] at c2 hA h8' hN'
   have e2 : wrap64 (2 * (N : Int)) = 2 * (N : Int):=by unfold wrap64;omega
   have d1 : decide (2 * (N : Int) < (m : Int)) = false:=decide_eq_false (by omega)
   go_quiet (fail)
   go_wp2
   go_end0
   have hgt : jFn st' = st':=by unfold jFn;rw [if_neg (fun hc => hA (by omega))]
   rw [HE.out,hgt]
   have h:=HG.out
   rw [HE.out,hgt] at h
   exact ⟨⟨_,rfl⟩,(t3.out.drewN nq).done h⟩
 | false =>
  rw [hh] at HT
  clear hh
  rcases hcase with ⟨hA,hB⟩ | ⟨hA,hB⟩ | hA
  ·go_enter Tryz.func196,Tryz.ntmps196
   go_upto_region 3 with (first
    | (go_at_call 120;refine HM.out.mono ?_;rintro e w1 ⟨rfl,t1⟩;replace t1:=jAa t1)
    | (go_at_call 121;refine (HP.out _ t1.out).mono ?_;rintro e w2 ⟨g,i,rfl,t2⟩;replace t2:=jAa t2)
    | (go_at_call 214;obtain ⟨q1,q2⟩:=HT.out _ _ _ t2.out;refine q1.mono ?_;rintro e w5 ⟨rfl,t3⟩;obtain ⟨m1,m2,m3⟩:=t3.many;have q3 : st'.l.length = st.l.length + 1:=q2;replace m3:=jAa (jHg.tab (m3 st'.l.length));rw [q3] at m3;obtain ⟨d,hd⟩ : ∃ d,st.l.length = d:=⟨_,rfl⟩;rw [hd] at m1 m3 hlen;have e1 : wrap64 ((d : Int) + 1) = (d : Int) + 1:=(by unfold wrap64;omega);have e5 : (((d + 1 : Nat) : Int)) = (d : Int) + 1:=rfl;rw [e5] at m3;clear q1 q2 q3 t3 e5))
   generalize (w5.setCell ⟨b,1,none⟩ (.int .i64 ((d : Int) + 1))) = w3 at *
   have t3:=m3
   clear m1 m2 m3 e1
   obtain ⟨aB,cB,aE,cE,c1,c2,c3⟩:=t3.out.cells
   obtain ⟨m,hm⟩ : ∃ m,st'.l.length = m:=⟨_,rfl⟩
   obtain ⟨N,hNN⟩ : ∃ N,st'.buckets = N:=⟨_,rfl⟩
   rw [hm] at c1 hA hpl'
   rw [hNN] at c2 hA h8' hN'
   rw [hB] at c3
   have e2 : wrap64 (2 * (N : Int)) = 2 * (N : Int):=by unfold wrap64;omega
   have d1 : decide (2 * (N : Int) < (m : Int)) = true:=decide_eq_true (by omega)
   have HGr:=jAa (fun W (t : Tab own w W b st') => jYs t (by rw [hNN];exact h8') hB (by rw [hNN];omega))
   go_quiet (fail)
   go_wp2_with (go_at_call 215;refine (HGr.out _ (t3.out.drewN nq)).mono ?_;rintro e w4 ⟨rfl,t4⟩;replace t4:=jAa t4)
   go_end0
   have hgt : jFn st' = ⟨st'.l,2 * st'.buckets,st'.buckets⟩:=by unfold jFn;rw [if_pos ⟨by omega,hB⟩]
   rw [HE.out,hgt]
   have h:=HG.out
   rw [HE.out,hgt] at h
   exact ⟨⟨_,rfl⟩,t4.out.done h⟩
  ·go_enter Tryz.func196,Tryz.ntmps196
   go_upto_region 3 with (first
    | (go_at_call 120;refine HM.out.mono ?_;rintro e w1 ⟨rfl,t1⟩;replace t1:=jAa t1)
    | (go_at_call 121;refine (HP.out _ t1.out).mono ?_;rintro e w2 ⟨g,i,rfl,t2⟩;replace t2:=jAa t2)
    | (go_at_call 214;obtain ⟨q1,q2⟩:=HT.out _ _ _ t2.out;refine q1.mono ?_;rintro e w5 ⟨rfl,t3⟩;obtain ⟨m1,m2,m3⟩:=t3.many;have q3 : st'.l.length = st.l.length + 1:=q2;replace m3:=jAa (jHg.tab (m3 st'.l.length));rw [q3] at m3;obtain ⟨d,hd⟩ : ∃ d,st.l.length = d:=⟨_,rfl⟩;rw [hd] at m1 m3 hlen;have e1 : wrap64 ((d : Int) + 1) = (d : Int) + 1:=(by unfold wrap64;omega);have e5 : (((d + 1 : Nat) : Int)) = (d : Int) + 1:=rfl;rw [e5] at m3;clear q1 q2 q3 t3 e5))
   generalize (w5.setCell ⟨b,1,none⟩ (.int .i64 ((d : Int) + 1))) = w3 at *
   have t3:=m3
   clear m1 m2 m3 e1
   obtain ⟨aB,cB,aE,cE,c1,c2,c3⟩:=t3.out.cells
   obtain ⟨m,hm⟩ : ∃ m,st'.l.length = m:=⟨_,rfl⟩
   obtain ⟨N,hNN⟩ : ∃ N,st'.buckets = N:=⟨_,rfl⟩
   rw [hm] at c1 hA hpl'
   rw [hNN] at c2 hA h8' hN'
   obtain ⟨lf,hlf⟩ : ∃ lf,st'.left = lf:=⟨_,rfl⟩
   rw [hlf] at c3 hB
   have e2 : wrap64 (2 * (N : Int)) = 2 * (N : Int):=by unfold wrap64;omega
   have d1 : decide (2 * (N : Int) < (m : Int)) = true:=decide_eq_true (by omega)
   have d2 : ((lf : Int) == 0) = false:=beq_eq_false_iff_ne.2 (by omega)
   go_quiet (fail)
   go_wp2
   go_end0
   have hgt : jFn st' = st':=by unfold jFn;rw [if_neg (fun hc => hB (hlf ▸ hc.2))]
   rw [HE.out,hgt]
   have h:=HG.out
   rw [HE.out,hgt] at h
   exact ⟨⟨_,rfl⟩,(t3.out.drewN nq).done h⟩
  ·go_enter Tryz.func196,Tryz.ntmps196
   go_upto_region 3 with (first
    | (go_at_call 120;refine HM.out.mono ?_;rintro e w1 ⟨rfl,t1⟩;replace t1:=jAa t1)
    | (go_at_call 121;refine (HP.out _ t1.out).mono ?_;rintro e w2 ⟨g,i,rfl,t2⟩;replace t2:=jAa t2)
    | (go_at_call 214;obtain ⟨q1,q2⟩:=HT.out _ _ _ t2.out;refine q1.mono ?_;rintro e w5 ⟨rfl,t3⟩;obtain ⟨m1,m2,m3⟩:=t3.many;have q3 : st'.l.length = st.l.length + 1:=q2;replace m3:=jAa (jHg.tab (m3 st'.l.length));rw [q3] at m3;obtain ⟨d,hd⟩ : ∃ d,st.l.length = d:=⟨_,rfl⟩;rw [hd] at m1 m3 hlen;have e1 : wrap64 ((d : Int) + 1) = (d : Int) + 1:=(by unfold wrap64;omega);have e5 : (((d + 1 : Nat) : Int)) = (d : Int) + 1:=rfl;rw [e5] at m3;clear q1 q2 q3 t3 e5))
   generalize (w5.setCell ⟨b,1,none⟩ (.int .i64 ((d : Int) + 1))) = w3 at *
   have t3:=m3
   clear m1 m2 m3 e1
   obtain ⟨aB,cB,aE,cE,c1,c2,c3⟩:=t3.out.cells
   obtain ⟨m,hm⟩ : ∃ m,st'.l.length = m:=⟨_,rfl⟩
   obtain ⟨N,hNN⟩ : ∃ N,st'.buckets = N:=⟨_,rfl⟩
   rw [hm] at c1 hA hpl'
   rw [hNN] at c2 hA h8' hN'
   have e2 : wrap64 (2 * (N : Int)) = 2 * (N : Int):=by unfold wrap64;omega
   have d1 : decide (2 * (N : Int) < (m : Int)) = false:=decide_eq_false (by omega)
   go_quiet (fail)
   go_wp2
   go_end0
   have hgt : jFn st' = st':=by unfold jFn;rw [if_neg (fun hc => hA (by omega))]
   rw [HE.out,hgt]
   have h:=HG.out
   rw [HE.out,hgt] at h
   exact ⟨⟨_,rfl⟩,(t3.out.drewN nq).done h⟩
end
end
end Go.Proofs.YtkfeafmpaodagaaGreatDoor
