/- A range over a function whose rounds lay what is told in a block of its own: as RangeGive. Conditions: none. A shard's items in a slice, at most so many: what the statements' own 'all' answers. Conditions: the contracts of package shard; at most 900 stores; from 1 to 1000 items. -/
import Derived.Test.YtkfeafmpaodagaaGreatDoorG01Joined
import Derived.Test.YtkfeafmpaodagaaGreatDoorG27Joined
import Derived.Test.YtkfeafmpaodagaaGreatDoorG25Joined
import Derived.Test.YtkfeafmpaodagaaGreatDoorG35Joined
namespace Go.Proofs.YtkfeafmpaodagaaGreatDoor
set_option maxHeartbeats 16000000
section
open Go.RowKit Go.Shelf
theorem jT3 {F : Fence} {n : Nat} {P : Program} {α : Type} {g : Operand} {ps : Array Tmp} {assign body : Code} {Q : Exit → Act → World → Prop} {a : Act} {w : World}
  (hro : F.round = none) (h1 : 1 ≤ n) {gf : Nat} {lb : Array Value} (hg : a.eval g = .func (.func gf) #[] lb) (hFg : F.fn gf) (eg : ∀ args w,(callFunc gf args).run P w = .ok (.enter gf args) w)
  {encs : α → Array Value} {give : α → jAd} {own : Nat → Prop} {S Sp : List α → Prop} {w0 : World} (hseq : jHd F (n - 1) P gf lb encs give own S Sp w0) (hb0 : Below w0.heap.size w0 w) (hown : ∀ k,own k → k < w.heap.size) (hps : ∀ x,(encs x).size = ps.size)
  (I : List α → World → (Nat → Prop) → Prop) (Ix : Code → List α → World → (Nat → Prop) → Prop) (fp0 : Nat → Prop) (hI : jD5 w.heap.size I) (hIx : ∀ c,jD5 w.heap.size (Ix c)) (hfp : ∀ pre V fp,I pre V fp → ∀ k,fp k → k < V.heap.size ∧ ¬ own k) (h0 : I [] w fp0) (ob : α → Obj) (act : α → Nat → Act)
  (hassign : ∀ (l : Nat) (x : α) (W : World) (K : Act → World → Prop),K (act x W.heap.size) (W.alloc (ob x)) →
   assign.wpIn (F.inRound l) (n - 1 - 1) P (Exit.then K (fun _ _ _ => False)) { tmps:=(ps.zip (encs x)).foldl (fun t (p,v) => t.setIfInBounds p v) a.tmps,defers:=[] } W)
  (hbody : ∀ (l : Nat) (pre : List α) (x : α) (W : World) (fp : Nat → Prop) (k0 : Nat),W.heap[k0]? = some (ob x) → w.heap.size ≤ k0 → ¬ fp k0 → ¬ (give x).own k0 → I pre W fp → Sp (pre ++ [x]) → (give x).q W → (∀ k,(give x).own k → w.heap.size ≤ k ∧ k < W.heap.size ∧ ¬ fp k) → body.wpIn (F.inRound l) (n - 1 - 1) P (jX2 fp (give x).own I Ix (pre ++ [x]) W) (act x k0) W)
  (hdone : ∀ (D : Nat) (xs : List α) (W : World) (fp : Nat → Prop),w.heap.size ≤ D → S xs → I xs W fp → W.heap[D]? = some (.deferred (some [])) → ¬ fp D → Q .normal { a with defers:={ target:=.collected D,args:=#[] } :: a.defers } W)
  (hstop : ∀ (D : Nat) (c : Code) (pre : List α) (W : World) (fp : Nat → Prop),w.heap.size ≤ D → Sp pre → Ix c pre W fp → W.heap[D]? = some (.deferred (some [])) → ¬ fp D → c.wpIn F n P Q { a with defers:={ target:=.collected D,args:=#[] } :: a.defers } W) :
  (Code.rangeFunc g ps assign body).wpIn F n P Q a w:=by
 refine wpIn_rangeFunc fun fn hfn => ?_
 rw [hro]
 obtain ⟨D,eD⟩ : ∃ D,D = w.heap.size:=⟨_,rfl⟩
 obtain ⟨R,eR⟩ : ∃ R : LoopState → Option Code → Loop,R = fun st pe => { state:=st,pending:=pe,fn,tmps:=a.tmps,params:=ps,assign,body,defers:=D }:=⟨_,rfl⟩
 obtain ⟨X,eX⟩ : ∃ X,X = (w.alloc (.deferred (some []))).alloc (.loop (R .ready none)):=⟨_,rfl⟩
 have sX : X.heap.size = D + 2:=by rw [eX,eD,World.size_alloc,World.size_alloc]
 have lX : X.heap[D + 1]? = some (.loop (R .ready none)):=by
  have:=World.alloc_heap_new (w.alloc (.deferred (some []))) (.loop (R .ready none))
  rw [World.size_alloc,← eD,← eX] at this
  exact this
 have dX : X.heap[D]? = some (.deferred (some [])):=by
  rw [eX,Below.heap_alloc _ _ _ (by rw [World.size_alloc];omega),eD]
  exact World.alloc_heap_new w _
 have gX : w.grownBy X none:=by
  rw [eX]
  exact jAt (World.grownBy_alloc _ _ _) (World.grownBy_alloc _ _ _)
 have iX : I [] X fp0:=hI _ _ _ _ h0 ⟨gX.1,gX.2,gX.3,gX.4,fun k hk _ => gX.5 k hk (by simp)⟩ fun k hk => gX.5 k (hfp _ _ _ h0 k hk).1 (by simp)
 have bX : Below w0.heap.size w0 X:=by
  rw [eX]
  exact hb0.trans ((((Below.refl _ w).alloc (Nat.le_refl _) _).alloc (by rw [World.size_alloc];omega) _).mono hb0.size)
 have f0 : ¬ fp0 D ∧ ¬ fp0 (D + 1):=⟨fun h => by have:=(hfp _ _ _ h0 _ h).1;omega,fun h => by have:=(hfp _ _ _ h0 _ h).1;omega⟩
 refine ⟨D + 1,[{ target:=.collected D,args:=#[] }],X,{ target:=.fn (.func gf) lb,args:=#[.func (.yield (D + 1)) #[] #[]] },X,gf,#[.func (.yield (D + 1)) #[] #[]] ++ lb,X,?enter,?res,?leads,?inv,fun _ => h1,?call⟩
 case enter =>
  rw [eX,eR,eD]
  exact run_enterLoop_outer _ _ _ _ _
 case res =>
  simp only [resolve,hg]
  simp [go_sem]
 case leads =>
  intro f' hf'
  simp [Target.leads] at hf'
  subst hf'
  exact hFg
 case inv => simp [invoke,go_sem,eg]
 case call =>
  have grow : ∀ {A B : World},Gr (fun k => X.heap.size ≤ k) A B → Gr (fun k => w.heap.size ≤ k) A B:=fun h => h.mono fun k hk => by omega
  have oJ : jD5 X.heap.size (fun pre W fpx => ∃ fp,fpx = (fun k => fp k ∨ k = D ∨ k = D + 1) ∧ I pre W fp ∧ ¬ fp D ∧ ¬ fp (D + 1) ∧ W.heap[D + 1]? = some (.loop (R .ready none)) ∧ W.heap[D]? = some (.deferred (some []))):=by
   rintro pre A B fpx ⟨fp,rfl,h2,h3,h4,h5,h6⟩ hg' hs
   exact ⟨fp,rfl,hI _ _ _ _ h2 (grow hg') (fun k hk => hs k (.inl hk)),h3,h4,(hs _ (.inr (.inr rfl))).trans h5,(hs _ (.inr (.inl rfl))).trans h6⟩
  have oK : jD5 X.heap.size (fun pre W fpx => ∃ fp c,fpx = (fun k => fp k ∨ k = D ∨ k = D + 1) ∧ Ix c pre W fp ∧ ¬ fp D ∧ ¬ fp (D + 1) ∧ W.heap[D + 1]? = some (.loop (R .done (some c))) ∧ W.heap[D]? = some (.deferred (some []))):=by
   rintro pre A B fpx ⟨fp,c,rfl,h2,h3,h4,h5,h6⟩ hg' hs
   exact ⟨fp,c,rfl,hIx c _ _ _ _ h2 (grow hg') (fun k hk => hs k (.inl hk)),h3,h4,(hs _ (.inr (.inr rfl))).trans h5,(hs _ (.inr (.inl rfl))).trans h6⟩
  refine (hseq (D + 1) _ _ _ X bX oJ oK ?foot ?round ⟨fp0,rfl,iX,f0.1,f0.2,lX,dX⟩).mono ?behind
  case foot =>
   rintro pre V fpx ⟨fp,rfl,h2,-,-,h5,h6⟩ k (hk | rfl | rfl)
   ·exact hfp _ _ _ h2 k hk
   ·exact ⟨(Array.getElem?_eq_some_iff.1 h6).1,fun ho => by have:=hown _ ho;omega⟩
   ·exact ⟨(Array.getElem?_eq_some_iff.1 h5).1,fun ho => by have:=hown _ ho;omega⟩
  case round =>
   rintro pre x W fpx ⟨fp,rfl,hi,nD,nE,hl,hd⟩ hsp hgq hgo
   have hlt : D + 1 < W.heap.size:=(Array.getElem?_eq_some_iff.1 hl).1
   have hy:=run_yield (P:=P) (args:=encs x) hl (by rw [eR];exact hps x)
   rw [eR] at hy
   have hl2 : (W.alloc (ob x)).heap[D + 1]? = some (.loop (R .ready none)):=(Below.heap_alloc _ _ _ hlt).trans hl
   refine ⟨fn,_,assign,body,hy,roundIn_of_wpIn hfn (hassign _ x W _ ⟨_,run_beginRound hl2 (by rw [eR]),?_⟩)⟩
   obtain ⟨V,eV⟩ : ∃ V,V = (W.alloc (ob x)).putObj (D + 1) (.loop { R .ready none with state:=.busy }):=⟨_,rfl⟩
   have sV : V.heap.size = W.heap.size + 1:=by rw [eV];simp [World.putObj]
   have oth : ∀ k,k < W.heap.size → k ≠ D + 1 → V.heap[k]? = W.heap[k]?:=fun k h1 h2 => by rw [eV];exact (World.putObj_heap_other h2).trans (Below.heap_alloc _ _ _ h1)
   have lV : V.heap[D + 1]? = some (.loop { R .ready none with state:=.busy }):=by rw [eV];exact World.putObj_heap_same (by rw [World.size_alloc];omega)
   have dV : V.heap[D]? = some (.deferred (some [])):=(oth D (by omega) (by omega)).trans hd
   have kV : V.heap[W.heap.size]? = some (ob x):=by rw [eV];exact (World.putObj_heap_other (by omega)).trans (World.alloc_heap_new W _)
   have gA:=World.grownBy_alloc W (ob x) none
   have gV : Gr (fun k => k = D + 1) W V:=by rw [eV];exact Gr.trans ⟨gA.1,gA.2,gA.3,gA.4,fun k hk _ => gA.5 k hk (by simp)⟩ (jEj _ rfl)
   have iV : I pre V fp:=hI _ _ _ _ hi (gV.mono fun k hk => by omega) fun k hk => oth k (hfp _ _ _ hi k hk).1 fun e => nE (by rw [← e];exact hk)
   have gnD : ∀ k,(give x).own k → k ≠ D ∧ k ≠ D + 1:=fun k hk => by have:=(hgo k hk).1;omega
   have gq : (give x).q V:=(give x).on W V hgq fun k hk => oth k (hgo k hk).2.1 (gnD k hk).2
   rw [← eV]
   refine wpIn_mono (hbody _ pre x V fp W.heap.size kV (by omega) (fun hf => Nat.lt_irrefl _ (hfp _ _ _ hi _ hf).1) (fun hg => Nat.lt_irrefl _ (hgo _ hg).2.1) iV hsp gq fun k hk => ⟨by have:=(hgo k hk).1;omega,by rw [sV];have:=(hgo k hk).2.1;omega,fun hf => (hgo k hk).2.2 (.inl hf)⟩) ?_
   have tail : ∀ (jump : Option Code) (Z : World) (fp' : Nat → Prop),Gr fp V Z → jBm V (fun k => fp k ∨ (give x).own k) fp' → ∃ Y,(Instr.endRound (D + 1) jump).run P Z = .ok (.bool jump.isNone) Y ∧ Gr (fun k => fp k ∨ k = D ∨ k = D + 1) W Y ∧ jBm W (fun k => (fp k ∨ k = D ∨ k = D + 1) ∨ (give x).own k) (fun k => fp' k ∨ k = D ∨ k = D + 1) ∧ ¬ fp' D ∧ ¬ fp' (D + 1) ∧ Y.heap[D + 1]? = some (.loop (R (if jump.isNone then .ready else .done) jump)) ∧ Y.heap[D]? = some (.deferred (some [])) ∧
     (∀ {J : List α → World → (Nat → Prop) → Prop} {q : List α},jD5 w.heap.size J → J q Z fp' → J q Y fp'):=fun jump Z fp' hZ hG => by
    have lZ:=(hZ.block (D + 1) (by omega) nE).trans lV
    have dZ:=(hZ.block D (by omega) nD).trans dV
    have zlt : D + 1 < Z.heap.size:=(Array.getElem?_eq_some_iff.1 lZ).1
    have nD' : ¬ fp' D:=fun h => (hG D h).elim (fun h => h.elim nD fun h => (gnD D h).1 rfl) fun h => by omega
    have nE' : ¬ fp' (D + 1):=fun h => (hG (D + 1) h).elim (fun h => h.elim nE fun h => (gnD (D + 1) h).2 rfl) fun h => by omega
    have hr:=run_endRound (P:=P) jump lZ
    rw [eR] at hr
    refine ⟨Z.putObj (D + 1) (.loop (R (if jump.isNone then .ready else .done) jump)),?_,?_,?_,nD',nE',World.putObj_heap_same zlt,(World.putObj_heap_other (by omega)).trans dZ,fun hJ hj => hJ _ _ _ _ hj (jEj _ (show w.heap.size ≤ D + 1 by omega)) fun k hk => World.putObj_heap_other fun e => nE' (by rw [← e];exact hk)⟩
    ·rw [eR]
     exact hr
    ·exact ((gV.mono fun k hk => .inr (.inr hk)).trans (hZ.mono fun k hk => .inl hk)).trans (jEj _ (.inr (.inr rfl)))
    ·rintro k (hk | hk)
     ·rcases hG k hk with (h | h) | h
      ·exact .inl (.inl (.inl h))
      ·exact .inl (.inr h)
      ·exact .inr (by omega)
     ·exact .inl (.inl (.inr hk))
   rintro e b Z hp
   cases e with
   | normal =>
    obtain ⟨fp',p1,p2,p3⟩:=hp
    obtain ⟨Y,hr,gY,gr,n1,n2,lY,dY,keep⟩:=tail none Z fp' p1 p2
    exact ⟨_,_,hr,_,gY,gr,.inl ⟨rfl,fp',rfl,keep hI p3,n1,n2,lY,dY⟩⟩
   | ret =>
    obtain ⟨fp',p1,p2,p3⟩:=hp
    obtain ⟨Y,hr,gY,gr,n1,n2,lY,dY,keep⟩:=tail (some .ret) Z fp' p1 p2
    exact ⟨_,_,hr,_,gY,gr,.inr ⟨rfl,fp',.ret,rfl,keep (hIx _) p3,n1,n2,lY,dY⟩⟩
   | exit id =>
    obtain ⟨fp',p1,p2,p3⟩:=hp
    obtain ⟨Y,hr,gY,gr,n1,n2,lY,dY,keep⟩:=tail (some (.exit id)) Z fp' p1 p2
    exact ⟨_,_,hr,_,gY,gr,.inr ⟨rfl,fp',.exit id,rfl,keep (hIx _) p3,n1,n2,lY,dY⟩⟩
   | goto t =>
    obtain ⟨fp',p1,p2,p3⟩:=hp
    obtain ⟨Y,hr,gY,gr,n1,n2,lY,dY,keep⟩:=tail (some (.goto t)) Z fp' p1 p2
    exact ⟨_,_,hr,_,gY,gr,.inr ⟨rfl,fp',.goto t,rfl,keep (hIx _) p3,n1,n2,lY,dY⟩⟩
   | panic ch => exact hp.elim
   | outgrown => exact hp.elim
  case behind =>
   rintro e W2 ⟨⟨v,rfl⟩,⟨xs,fpx,hS,fp,rfl,hi,nD,nE,hl,hd⟩ | ⟨pre,fpx,hSp,fp,c,rfl,hi,nD,nE,hl,hd⟩⟩
   ·have hr:=run_endLoop (P:=P) hl (by rw [eR];simp)
    rw [eR] at hr
    exact ⟨none,_,hr,hdone D xs _ fp (by omega) hS (hI _ _ _ _ hi (jEj _ (show w.heap.size ≤ D + 1 by omega)) fun k hk => World.putObj_heap_other fun e => nE (by rw [← e];exact hk)) ((World.putObj_heap_other (by omega)).trans hd) nD⟩
   ·have hr:=run_endLoop (P:=P) hl (by rw [eR];simp)
    rw [eR] at hr
    exact ⟨some c,_,hr,hstop D c pre _ fp (by omega) hSp (hIx c _ _ _ _ hi (jEj _ (show w.heap.size ≤ D + 1 by omega)) fun k hk => World.putObj_heap_other fun e => nE (by rw [← e];exact hk)) ((World.putObj_heap_other (by omega)).trans hd) nD⟩
end
section
open Go.RowKit Go.Shelf
attribute [local go_sem] Oper.semAt_some
variable {Sh : World → Nat → (Nat → Prop) → Nat → Nat → Hs → Prop}
section
variable {F : Fence} {nF : Nat} {P : Program} {ops : Array Oper} {rest : List Oper} {o : Oper} {a : Act} {w : World} {Q : Exit → Act → World → Prop}
theorem jO5 (hgd : o.guard = none) (ty : TypeId) (x y : Operand) (ho : o.op = .store ty x y) (g : Nat) (cells : Array Value) (hx : a.eval x = .pointer (some ⟨g,0,none⟩)) (hy : a.eval y = .agg cells)
  (t : TypeId) (old : Array Value) (hg : w.heap[g]? = some (.cells old t (0,0))) (hi : (P.info? ty).map (·.size) = some cells.size) (hold : old.size = cells.size) (h1 : cells.all (·.oneCell') = true)
  (h : wpListIn F nF P ops Q rest (a.put o.dst undef) (w.setRow g cells)) : wpListIn F nF P ops Q (o :: rest) a w:=by
 refine wpListIn_plain hgd fun K hK => ?_
 unfold Oper.wpIn
 refine ⟨by simp [Oper.about,ho],?_⟩
 rw [Oper.semAt_plain F _ _ (by rw [ho];intro c hc';cases hc')]
 simp [execOp,ho,hx,hy,Instr.storeAt,Instr.sureAddr,run_storeVar_row w g t ty old cells hg hi hold h1,Result.andThen]
 exact hK _ _ h
end
def jIl (xs : List jFf) : jAd where
 own:=fun k => ∃ x ∈ xs,(jIs x).own k
 q:=fun w => ∀ x ∈ xs,(jIs x).q w
 on:=fun w1 w2 h hs x hx => (jIs x).on w1 w2 (h x hx) fun k hk => hs k ⟨x,hx,hk⟩
end
end Go.Proofs.YtkfeafmpaodagaaGreatDoor
