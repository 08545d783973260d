/- A range over a function that itself ranges over another function: the loop's law, and the iterator's contract that it asks. Our own, over the library's rule for one such loop: what a caller keeps in mind must outlast the inner loop's records too, so the contract hands the iterator a word that does. Conditions: the body writes no block that was laid since its loop began. A range over a function that reads memory of its own, and may itself range over functions: the loop's law, and the iterator's contract that it asks. Our own, as RangeOwn's; what a caller keeps in mind has blocks of its own ('fp'), a round writes these and new ones alone, and the iterator writes none of them. Conditions: none. A range over a function that hands each round memory of its own: as RangeSep, but what is told comes with blocks ('give') that the round may keep, and the round knows that what was told so far is a beginning. Conditions: none. What walks of ranges over functions share: a slice that grows in its box, the loops' own records, the last store. Conditions: none. -/
import Derived.RangeFuncNested
import Derived.RangeFuncBound
import Derived.RangeFuncCalls
import Derived.RangeFuncLeaves
import Derived.RangeFuncBox
import Derived.Shelf.Abstract
import Derived.Shelf.RegionOpen
import Derived.OwnWalkIn
import Derived.TacticsInMore
import Derived.LoopNIn
import Derived.LoopIn
import Derived.Test.YtkfeafmpaodagaaGreatDoorG00Joined
import Derived.Maps.AppendAt
import Derived.Laws.AppendOwn
namespace Go.Proofs.YtkfeafmpaodagaaGreatDoor
set_option maxHeartbeats 16000000
section
open Go.RowKit Go.Shelf
structure jCa (B : Nat) (W W' : World) : Prop where
 size : W.heap.size ≤ W'.heap.size
 same : ∀ k,B ≤ k → k < W.heap.size → W'.heap[k]? = W.heap[k]?
theorem jCa.trans {B : Nat} {X Y Z : World} (h : jCa B X Y) (k : jCa B Y Z) : jCa B X Z :=
 ⟨Nat.le_trans h.size k.size,fun i hi hl => (k.same i hi (Nat.lt_of_lt_of_le hl h.size)).trans (h.same i hi hl)⟩
theorem jCa.mono {B C : Nat} {X Y : World} (h : jCa B X Y) (hc : B ≤ C) : jCa C X Y:=⟨h.size,fun i hi hl => h.same i (Nat.le_trans hc hi) hl⟩
theorem jCa.drew (B : Nat) (X : World) : jCa B X X.drew:=⟨Nat.le_refl _,fun _ _ _ => rfl⟩
theorem jCa.keeps {B C : Nat} {X Y : World} (h : jCa B X Y) (hc : B ≤ C) : KeepsFrom C X Y :=
 ⟨h.size,fun k _ hk ho _ => (h.same k (Nat.le_trans hc hk) (Array.getElem?_eq_some_iff.1 ho).1).trans ho⟩
theorem jCa.block {B k : Nat} {X Y : World} {o : Obj} (h : jCa B X Y) (hk : B ≤ k) (ho : X.heap[k]? = some o) : Y.heap[k]? = some o :=
 (h.same k hk (Array.getElem?_eq_some_iff.1 ho).1).trans ho
theorem jCa.boxed {B k : Nat} {X Y : World} {t : TypeId} {v : Value} (h : jCa B X Y) (hk : B ≤ k) (hb : Boxed X k t v) : Boxed Y k t v:=h.block hk hb
theorem jCa.put {B l : Nat} {X : World} (o : Obj) (h : l < B) : jCa B X (X.putObj l o):=by
 refine ⟨?_,fun k hk _ => World.putObj_heap_other (show k ≠ l by omega)⟩
 have:=(grownBy_putObj' X l o).size
 exact this
theorem jJ2 {β : Type} {B C : Nat} {I : β → World → Prop} (h : OwnFrom B I) (hc : B ≤ C) : OwnFrom C I:=fun s W W' row hs hg hr =>
 h s W W' row hs hg fun r e => ⟨Nat.le_trans hc (hr r e).1,(hr r e).2⟩
theorem jP1 {β : Type} {B k : Nat} (o : Obj) (h : k < B) : OwnFrom B (fun (_ : β) W => W.heap[k]? = some o):=fun _ W W' row hs hg hr =>
 (hg.block k (Array.getElem?_eq_some_iff.1 hs).1 (fun e => by have:=(hr k e.symm).1;omega)).trans hs
theorem jKy {β : Type} {B : Nat} {w : World} {x : Option Nat} (h : w.heap.size ≤ B) : OwnFrom B (fun (_ : β) W => w.grownBy W x):=fun _ _ _ _ hs hg hr =>
 ⟨hg.1.trans hs.1,hg.2.trans hs.2,hg.3.trans hs.3,Nat.le_trans hs.4 hg.4,fun k hk hx => (hg.5 k (Nat.lt_of_lt_of_le hk hs.4) (fun e => by have:=(hr k e.symm).1;omega)).trans (hs.5 k hk hx)⟩
theorem jRm {β : Type} {B : Nat} {I : β → World → Prop} (h : OwnFrom B I) {s : β} {W : World} (hs : I s W) : I s W.drew :=
 h s W W.drew none hs ⟨rfl,rfl,rfl,Nat.le_refl _,fun _ _ _ => rfl⟩ (fun _ e => by cases e)
theorem jI3 {β : Type} {B : Nat} {I : β → World → Prop} (h : OwnFrom B I) {s : β} {W : World} {l : Nat} {o : Obj} (o' : Obj) (hs : I s W) (hl : B ≤ l) (ho : W.heap[l]? = some o) (hc : o.isCells = false) : I s (W.putObj l o') :=
 h s W _ (some l) hs (grownBy_putObj' W l o') (fun r e => by cases e;exact ⟨hl,o,ho,hc⟩)
theorem jLv {β : Type} {B : Nat} {I : β → World → Prop} (h : OwnFrom B I) {s : β} {W : World} (o : Obj) (hs : I s W) : I s (W.alloc o) :=
 h s W _ none hs (World.grownBy_alloc W o none) (fun _ e => by cases e)
def jYb {α : Type} (F : Fence) (n : Nat) (P : Program) (g : Nat) (lb : Array Value) (encs : α → Array Value) (S Sp : List α → Prop) (N : Nat) (w : World) : Prop :=
 ∀ (l : Nat) (J Jx : List α → World → Prop) (W : World),Below w.heap.size w W → OwnFrom W.heap.size J → OwnFrom W.heap.size Jx →
  (∀ pre x V,J pre V → pre.length < N → YieldAt F (n - 1) P l (encs x) V fun e V' =>
   jCa W.heap.size V V' ∧ ((e = .returned (.bool true) ∧ J (pre ++ [x]) V') ∨ (e = .returned (.bool false) ∧ Jx (pre ++ [x]) V'))) →
  J [] W →
  CallsIn F n P g (#[.func (.yield l) #[] #[]] ++ lb) W fun e W' => (∃ v,e = .returned v) ∧ ((∃ xs,S xs ∧ J xs W') ∨ (∃ pre,Sp pre ∧ Jx pre W'))
def kGc {α : Type} (B : Nat) (I : List α → World → Prop) (Ix : Code → List α → World → Prop) (xs : List α) (W : World) : Exit → Act → World → Prop
 | .normal,_,V => jCa B W V ∧ I xs V
 | .ret,_,V => jCa B W V ∧ Ix .ret xs V
 | .exit id,_,V => jCa B W V ∧ Ix (.exit id) xs V
 | .goto t,_,V => jCa B W V ∧ Ix (.goto t) xs V
 | .panic _,_,_ => False
 | .outgrown,_,_ => False
theorem jMr {F : Fence} {n : Nat} {P : Program} {α : Type} {g : Operand} {ps : Array Tmp} {assign body : Code} {Q : Exit → Act → World → Prop} {a : Act} {w : World}
  (hro : F.round = none) (h1 : 1 ≤ n) {gf : Nat} {lb : Array Value} (hg : a.eval g = .func (.func gf) #[] lb) (hFg : F.fn gf) (eg : ∀ args w,(callFunc gf args).run P w = .ok (.enter gf args) w)
  {encs : α → Array Value} {S Sp : List α → Prop} {N : Nat} {w0 : World} (hseq : jYb F (n - 1) P gf lb encs S Sp N w0) (hb0 : Below w0.heap.size w0 w) (hps : ∀ x,(encs x).size = ps.size)
  (I : List α → World → Prop) (Ix : Code → List α → World → Prop) (hI : OwnFrom w.heap.size I) (hIx : ∀ c,OwnFrom w.heap.size (Ix c)) (h0 : I [] w) (act : α → Act)
  (hassign : ∀ (l : Nat) (x : α) (W : World) (K : Act → World → Prop),K (act x) W →
   assign.wpIn (F.inRound l) (n - 1 - 1) P (Exit.then K (fun _ _ _ => False)) { tmps:=(ps.zip (encs x)).foldl (fun t (p,v) => t.setIfInBounds p v) a.tmps,defers:=[] } W)
  (hbody : ∀ (l : Nat) (pre : List α) (x : α) (W : World),I pre W → pre.length < N → body.wpIn (F.inRound l) (n - 1 - 1) P (kGc w.heap.size I Ix (pre ++ [x]) W) (act x) W)
  (hdone : ∀ (D : Nat) (xs : List α) (W : World),w.heap.size ≤ D → S xs → I xs W → W.heap[D]? = some (.deferred (some [])) → Q .normal { a with defers:={ target:=.collected D,args:=#[] } :: a.defers } W)
  (hstop : ∀ (D : Nat) (c : Code) (pre : List α) (W : World),w.heap.size ≤ D → Sp pre → Ix c pre W → W.heap[D]? = some (.deferred (some [])) → c.wpIn F n P Q { a with defers:={ target:=.collected D,args:=#[] } :: a.defers } W) :
  (Code.rangeFunc g ps assign body).wpIn F n P Q a w:=by
 refine wpIn_rangeFunc fun fn hfn => ?_
 rw [hro]
 obtain ⟨D,eD⟩ : ∃ D,D = w.heap.size:=⟨_,rfl⟩
 obtain ⟨R,eR⟩ : ∃ R : LoopState → Option Code → Loop,R = fun st pe => { state:=st,pending:=pe,fn,tmps:=a.tmps,params:=ps,assign,body,defers:=D }:=⟨_,rfl⟩
 obtain ⟨X,eX⟩ : ∃ X,X = (w.alloc (.deferred (some []))).alloc (.loop (R .ready none)):=⟨_,rfl⟩
 have sX : X.heap.size = D + 2:=by rw [eX,eD,World.size_alloc,World.size_alloc]
 have lX : X.heap[D + 1]? = some (.loop (R .ready none)):=by
  have:=World.alloc_heap_new (w.alloc (.deferred (some []))) (.loop (R .ready none))
  rw [World.size_alloc,← eD,← eX] at this
  exact this
 have dX : X.heap[D]? = some (.deferred (some [])):=by
  rw [eX,Below.heap_alloc _ _ _ (by rw [World.size_alloc];omega),eD]
  exact World.alloc_heap_new w _
 have iX : I [] X:=by rw [eX];exact jLv hI _ (jLv hI _ h0)
 have bX : Below w0.heap.size w0 X:=by
  rw [eX]
  exact hb0.trans ((((Below.refl _ w).alloc (Nat.le_refl _) _).alloc (by rw [World.size_alloc];omega) _).mono hb0.size)
 refine ⟨D + 1,[{ target:=.collected D,args:=#[] }],X,{ target:=.fn (.func gf) lb,args:=#[.func (.yield (D + 1)) #[] #[]] },X,gf,#[.func (.yield (D + 1)) #[] #[]] ++ lb,X,?enter,?res,?leads,?inv,fun _ => h1,?call⟩
 case enter =>
  rw [eX,eR,eD]
  exact run_enterLoop_outer _ _ _ _ _
 case res =>
  simp only [resolve,hg]
  simp [go_sem]
 case leads =>
  intro f' hf'
  simp [Target.leads] at hf'
  subst hf'
  exact hFg
 case inv => simp [invoke,go_sem,eg]
 case call =>
  have oJ : OwnFrom X.heap.size (fun pre W => I pre W ∧ W.heap[D + 1]? = some (.loop (R .ready none)) ∧ W.heap[D]? = some (.deferred (some []))) :=
   OwnFrom.and (jJ2 hI (by omega)) (OwnFrom.and (jP1 _ (by omega)) (jP1 _ (by omega)))
  have oK : OwnFrom X.heap.size (fun pre W => ∃ c,Ix c pre W ∧ W.heap[D + 1]? = some (.loop (R .done (some c))) ∧ W.heap[D]? = some (.deferred (some []))):=fun s A B row hs hg' hr => by
   obtain ⟨c,hc⟩:=hs
   exact ⟨c,OwnFrom.and (jJ2 (hIx c) (by omega)) (OwnFrom.and (jP1 _ (by omega)) (jP1 _ (by omega))) s A B row hc hg' hr⟩
  refine (hseq (D + 1) _ _ X bX oJ oK ?round ⟨iX,lX,dX⟩).mono ?behind
  case round =>
   rintro pre x W ⟨hi,hl,hd⟩ hlen
   have hlt : D + 1 < W.heap.size:=(Array.getElem?_eq_some_iff.1 hl).1
   have hy:=run_yield (P:=P) (args:=encs x) hl (by rw [eR];exact hps x)
   rw [eR] at hy
   refine ⟨fn,_,assign,body,hy,roundIn_of_wpIn hfn (hassign _ x W _ ⟨_,run_beginRound hl (by rw [eR]),?_⟩)⟩
   obtain ⟨V,eV⟩ : ∃ V,V = W.putObj (D + 1) (.loop { R .ready none with state:=.busy }):=⟨_,rfl⟩
   have lV : V.heap[D + 1]? = some (.loop { R .ready none with state:=.busy }):=by rw [eV];exact World.putObj_heap_same hlt
   have dV : V.heap[D]? = some (.deferred (some [])):=by rw [eV];exact (World.putObj_heap_other (by omega)).trans hd
   have sV : jCa X.heap.size W V:=by rw [eV];exact jCa.put _ (by omega)
   have iV : I pre V:=by rw [eV];exact jI3 hI _ hi (by omega) hl rfl
   rw [← eV]
   refine wpIn_mono (hbody _ pre x V iV hlen) ?_
   have tail : ∀ (jump : Option Code) (Z : World),jCa w.heap.size V Z → ∃ Y,(Instr.endRound (D + 1) jump).run P Z = .ok (.bool jump.isNone) Y ∧ jCa X.heap.size W Y ∧ Y.heap[D + 1]? = some (.loop (R (if jump.isNone then .ready else .done) jump)) ∧ Y.heap[D]? = some (.deferred (some [])) ∧
     (∀ {J : List α → World → Prop} {q : List α},OwnFrom w.heap.size J → J q Z → J q Y):=fun jump Z hZ => by
    have lZ:=hZ.block (by omega) lV
    have dZ:=hZ.block (by omega) dV
    have zlt : D + 1 < Z.heap.size:=(Array.getElem?_eq_some_iff.1 lZ).1
    have hr:=run_endRound (P:=P) jump lZ
    rw [eR] at hr
    refine ⟨Z.putObj (D + 1) (.loop (R (if jump.isNone then .ready else .done) jump)),?_,(sV.trans (hZ.mono (by omega))).trans (jCa.put _ (by omega)),World.putObj_heap_same zlt,(World.putObj_heap_other (by omega)).trans dZ,fun hJ hj => jI3 hJ _ hj (by omega) lZ rfl⟩
    rw [eR]
    exact hr
   rintro e b Z hp
   cases e with
   | normal =>
    obtain ⟨Y,hr,sY,lY,dY,keep⟩:=tail none Z hp.1
    exact ⟨_,_,hr,sY,.inl ⟨rfl,keep hI hp.2,lY,dY⟩⟩
   | ret =>
    obtain ⟨Y,hr,sY,lY,dY,keep⟩:=tail (some .ret) Z hp.1
    exact ⟨_,_,hr,sY,.inr ⟨rfl,.ret,keep (hIx _) hp.2,lY,dY⟩⟩
   | exit id =>
    obtain ⟨Y,hr,sY,lY,dY,keep⟩:=tail (some (.exit id)) Z hp.1
    exact ⟨_,_,hr,sY,.inr ⟨rfl,.exit id,keep (hIx _) hp.2,lY,dY⟩⟩
   | goto t =>
    obtain ⟨Y,hr,sY,lY,dY,keep⟩:=tail (some (.goto t)) Z hp.1
    exact ⟨_,_,hr,sY,.inr ⟨rfl,.goto t,keep (hIx _) hp.2,lY,dY⟩⟩
   | panic ch => exact hp.elim
   | outgrown => exact hp.elim
  case behind =>
   rintro e W2 ⟨⟨v,rfl⟩,⟨xs,hS,hi,hl,hd⟩ | ⟨pre,hSp,c,hi,hl,hd⟩⟩
   ·have hr:=run_endLoop (P:=P) hl (by rw [eR];simp)
    rw [eR] at hr
    exact ⟨none,_,hr,hdone D xs _ (by omega) hS (jI3 hI _ hi (by omega) hl rfl) ((World.putObj_heap_other (by omega)).trans hd)⟩
   ·have hr:=run_endLoop (P:=P) hl (by rw [eR];simp)
    rw [eR] at hr
    exact ⟨some c,_,hr,hstop D c pre _ (by omega) hSp (jI3 (hIx c) _ hi (by omega) hl rfl) ((World.putObj_heap_other (by omega)).trans hd)⟩
def jWk (b : Act) (v : World) : Exit → Act → World → Prop
 | .normal,a,w => a = b ∧ w = v
 | _,_,_ => False
theorem jWk.imp {Q : Exit → Act → World → Prop} {b : Act} {v : World} (h : Q .normal b v) : ∀ e a w,jWk b v e a w → Q e a w:=fun e a w => by
 cases e with
 | normal =>
  rintro ⟨rfl,rfl⟩
  exact h
 | _ => exact fun hm => (hm : False).elim
end
section
open Go.RowKit Go.Shelf
def jMh (own : Nat → Prop) (W W' : World) : Prop:=∀ k,own k → W'.heap[k]? = W.heap[k]?
def jD5 {α : Type} (B : Nat) (J : List α → World → (Nat → Prop) → Prop) : Prop:=∀ pre V V' fp,J pre V fp → Gr (fun k => B ≤ k) V V' → jMh fp V V' → J pre V' fp
def jW5 {α : Type} (F : Fence) (n : Nat) (P : Program) (g : Nat) (lb : Array Value) (encs : α → Array Value) (own : Nat → Prop) (S Sp : List α → Prop) (N : Nat) (w : World) : Prop :=
 ∀ (l : Nat) (J Jx : List α → World → (Nat → Prop) → Prop) (fp0 : Nat → Prop) (W : World),Below w.heap.size w W → jD5 W.heap.size J → jD5 W.heap.size Jx →
  (∀ pre V fp,J pre V fp → ∀ k,fp k → k < V.heap.size ∧ ¬ own k) →
  (∀ pre x V fp,J pre V fp → pre.length < N → YieldAt F (n - 1) P l (encs x) V fun e V' => ∃ fp',Gr fp V V' ∧ jBm V fp fp' ∧
   ((e = .returned (.bool true) ∧ J (pre ++ [x]) V' fp') ∨ (e = .returned (.bool false) ∧ Jx (pre ++ [x]) V' fp'))) →
  J [] W fp0 →
  CallsIn F n P g (#[.func (.yield l) #[] #[]] ++ lb) W fun e W' => (∃ v,e = .returned v) ∧ ((∃ xs fp,S xs ∧ J xs W' fp) ∨ (∃ pre fp,Sp pre ∧ Jx pre W' fp))
def kN9 {α : Type} (fp : Nat → Prop) (I : List α → World → (Nat → Prop) → Prop) (Ix : Code → List α → World → (Nat → Prop) → Prop) (xs : List α) (W : World) : Exit → Act → World → Prop
 | .normal,_,V => ∃ fp',Gr fp W V ∧ jBm W fp fp' ∧ I xs V fp'
 | .ret,_,V => ∃ fp',Gr fp W V ∧ jBm W fp fp' ∧ Ix .ret xs V fp'
 | .exit id,_,V => ∃ fp',Gr fp W V ∧ jBm W fp fp' ∧ Ix (.exit id) xs V fp'
 | .goto t,_,V => ∃ fp',Gr fp W V ∧ jBm W fp fp' ∧ Ix (.goto t) xs V fp'
 | .panic _,_,_ => False
 | .outgrown,_,_ => False
theorem jEj {W : World} {l : Nat} {F : Nat → Prop} (o : Obj) (h : F l) : Gr F W (W.putObj l o):=by
 have:=grownBy_putObj' W l o
 exact ⟨this.1,this.2,this.3,this.4,fun k hk hf => this.5 k hk (fun e => hf (by cases e;exact h))⟩
theorem Gr.mono {F G : Nat → Prop} {a b : World} (h : Gr F a b) (hG : ∀ k,F k → G k) : Gr G a b:=⟨h.os,h.tape,h.output,h.size,fun k hk hn => h.block k hk fun hf => hn (hG k hf)⟩
theorem kE3 {F : Fence} {n : Nat} {P : Program} {α : Type} {g : Operand} {ps : Array Tmp} {assign body : Code} {Q : Exit → Act → World → Prop} {a : Act} {w : World}
  (hro : F.round = none) (h1 : 1 ≤ n) {gf : Nat} {lb : Array Value} (hg : a.eval g = .func (.func gf) #[] lb) (hFg : F.fn gf) (eg : ∀ args w,(callFunc gf args).run P w = .ok (.enter gf args) w)
  {encs : α → Array Value} {own : Nat → Prop} {S Sp : List α → Prop} {N : Nat} {w0 : World} (hseq : jW5 F (n - 1) P gf lb encs own S Sp N w0) (hb0 : Below w0.heap.size w0 w) (hown : ∀ k,own k → k < w.heap.size) (hps : ∀ x,(encs x).size = ps.size)
  (I : List α → World → (Nat → Prop) → Prop) (Ix : Code → List α → World → (Nat → Prop) → Prop) (fp0 : Nat → Prop) (hI : jD5 w.heap.size I) (hIx : ∀ c,jD5 w.heap.size (Ix c)) (hfp : ∀ pre V fp,I pre V fp → ∀ k,fp k → k < V.heap.size ∧ ¬ own k) (h0 : I [] w fp0) (act : α → Act)
  (hassign : ∀ (l : Nat) (x : α) (W : World) (K : Act → World → Prop),K (act x) W →
   assign.wpIn (F.inRound l) (n - 1 - 1) P (Exit.then K (fun _ _ _ => False)) { tmps:=(ps.zip (encs x)).foldl (fun t (p,v) => t.setIfInBounds p v) a.tmps,defers:=[] } W)
  (hbody : ∀ (l : Nat) (pre : List α) (x : α) (W : World) (fp : Nat → Prop),I pre W fp → pre.length < N → body.wpIn (F.inRound l) (n - 1 - 1) P (kN9 fp I Ix (pre ++ [x]) W) (act x) W)
  (hdone : ∀ (D : Nat) (xs : List α) (W : World) (fp : Nat → Prop),w.heap.size ≤ D → S xs → I xs W fp → W.heap[D]? = some (.deferred (some [])) → ¬ fp D → Q .normal { a with defers:={ target:=.collected D,args:=#[] } :: a.defers } W)
  (hstop : ∀ (D : Nat) (c : Code) (pre : List α) (W : World) (fp : Nat → Prop),w.heap.size ≤ D → Sp pre → Ix c pre W fp → W.heap[D]? = some (.deferred (some [])) → ¬ fp D → c.wpIn F n P Q { a with defers:={ target:=.collected D,args:=#[] } :: a.defers } W) :
  (Code.rangeFunc g ps assign body).wpIn F n P Q a w:=by
 refine wpIn_rangeFunc fun fn hfn => ?_
 rw [hro]
 obtain ⟨D,eD⟩ : ∃ D,D = w.heap.size:=⟨_,rfl⟩
 obtain ⟨R,eR⟩ : ∃ R : LoopState → Option Code → Loop,R = fun st pe => { state:=st,pending:=pe,fn,tmps:=a.tmps,params:=ps,assign,body,defers:=D }:=⟨_,rfl⟩
 obtain ⟨X,eX⟩ : ∃ X,X = (w.alloc (.deferred (some []))).alloc (.loop (R .ready none)):=⟨_,rfl⟩
 have sX : X.heap.size = D + 2:=by rw [eX,eD,World.size_alloc,World.size_alloc]
 have lX : X.heap[D + 1]? = some (.loop (R .ready none)):=by
  have:=World.alloc_heap_new (w.alloc (.deferred (some []))) (.loop (R .ready none))
  rw [World.size_alloc,← eD,← eX] at this
  exact this
 have dX : X.heap[D]? = some (.deferred (some [])):=by
  rw [eX,Below.heap_alloc _ _ _ (by rw [World.size_alloc];omega),eD]
  exact World.alloc_heap_new w _
 have gX : w.grownBy X none:=by
  rw [eX]
  exact jAt (World.grownBy_alloc _ _ _) (World.grownBy_alloc _ _ _)
 have iX : I [] X fp0:=hI _ _ _ _ h0 ⟨gX.1,gX.2,gX.3,gX.4,fun k hk _ => gX.5 k hk (by simp)⟩ fun k hk => gX.5 k (hfp _ _ _ h0 k hk).1 (by simp)
 have bX : Below w0.heap.size w0 X:=by
  rw [eX]
  exact hb0.trans ((((Below.refl _ w).alloc (Nat.le_refl _) _).alloc (by rw [World.size_alloc];omega) _).mono hb0.size)
 have f0 : ¬ fp0 D ∧ ¬ fp0 (D + 1):=⟨fun h => by have:=(hfp _ _ _ h0 _ h).1;omega,fun h => by have:=(hfp _ _ _ h0 _ h).1;omega⟩
 refine ⟨D + 1,[{ target:=.collected D,args:=#[] }],X,{ target:=.fn (.func gf) lb,args:=#[.func (.yield (D + 1)) #[] #[]] },X,gf,#[.func (.yield (D + 1)) #[] #[]] ++ lb,X,?enter,?res,?leads,?inv,fun _ => h1,?call⟩
 case enter =>
  rw [eX,eR,eD]
  exact run_enterLoop_outer _ _ _ _ _
 case res =>
  simp only [resolve,hg]
  simp [go_sem]
 case leads =>
  intro f' hf'
  simp [Target.leads] at hf'
  subst hf'
  exact hFg
 case inv => simp [invoke,go_sem,eg]
 case call =>
  have grow : ∀ {A B : World},Gr (fun k => X.heap.size ≤ k) A B → Gr (fun k => w.heap.size ≤ k) A B:=fun h => h.mono fun k hk => by omega
  have oJ : jD5 X.heap.size (fun pre W fpx => ∃ fp,fpx = (fun k => fp k ∨ k = D ∨ k = D + 1) ∧ I pre W fp ∧ ¬ fp D ∧ ¬ fp (D + 1) ∧ W.heap[D + 1]? = some (.loop (R .ready none)) ∧ W.heap[D]? = some (.deferred (some []))):=by
   rintro pre A B fpx ⟨fp,rfl,h2,h3,h4,h5,h6⟩ hg' hs
   exact ⟨fp,rfl,hI _ _ _ _ h2 (grow hg') (fun k hk => hs k (.inl hk)),h3,h4,(hs _ (.inr (.inr rfl))).trans h5,(hs _ (.inr (.inl rfl))).trans h6⟩
  have oK : jD5 X.heap.size (fun pre W fpx => ∃ fp c,fpx = (fun k => fp k ∨ k = D ∨ k = D + 1) ∧ Ix c pre W fp ∧ ¬ fp D ∧ ¬ fp (D + 1) ∧ W.heap[D + 1]? = some (.loop (R .done (some c))) ∧ W.heap[D]? = some (.deferred (some []))):=by
   rintro pre A B fpx ⟨fp,c,rfl,h2,h3,h4,h5,h6⟩ hg' hs
   exact ⟨fp,c,rfl,hIx c _ _ _ _ h2 (grow hg') (fun k hk => hs k (.inl hk)),h3,h4,(hs _ (.inr (.inr rfl))).trans h5,(hs _ (.inr (.inl rfl))).trans h6⟩
  refine (hseq (D + 1) _ _ _ X bX oJ oK ?foot ?round ⟨fp0,rfl,iX,f0.1,f0.2,lX,dX⟩).mono ?behind
  case foot =>
   rintro pre V fpx ⟨fp,rfl,h2,-,-,h5,h6⟩ k (hk | rfl | rfl)
   ·exact hfp _ _ _ h2 k hk
   ·exact ⟨(Array.getElem?_eq_some_iff.1 h6).1,fun ho => by have:=hown _ ho;omega⟩
   ·exact ⟨(Array.getElem?_eq_some_iff.1 h5).1,fun ho => by have:=hown _ ho;omega⟩
  case round =>
   rintro pre x W fpx ⟨fp,rfl,hi,nD,nE,hl,hd⟩ hlen
   have hlt : D + 1 < W.heap.size:=(Array.getElem?_eq_some_iff.1 hl).1
   have hy:=run_yield (P:=P) (args:=encs x) hl (by rw [eR];exact hps x)
   rw [eR] at hy
   refine ⟨fn,_,assign,body,hy,roundIn_of_wpIn hfn (hassign _ x W _ ⟨_,run_beginRound hl (by rw [eR]),?_⟩)⟩
   obtain ⟨V,eV⟩ : ∃ V,V = W.putObj (D + 1) (.loop { R .ready none with state:=.busy }):=⟨_,rfl⟩
   have lV : V.heap[D + 1]? = some (.loop { R .ready none with state:=.busy }):=by rw [eV];exact World.putObj_heap_same hlt
   have dV : V.heap[D]? = some (.deferred (some [])):=by rw [eV];exact (World.putObj_heap_other (by omega)).trans hd
   have gV : Gr (fun k => k = D + 1) W V:=by rw [eV];exact jEj _ rfl
   have iV : I pre V fp:=hI _ _ _ _ hi (gV.mono fun k hk => by omega) fun k hk => by rw [eV];exact World.putObj_heap_other fun e => nE (by rw [← e];exact hk)
   have sV : V.heap.size = W.heap.size:=by rw [eV];simp [World.putObj]
   rw [← eV]
   refine wpIn_mono (hbody _ pre x V fp iV hlen) ?_
   have tail : ∀ (jump : Option Code) (Z : World) (fp' : Nat → Prop),Gr fp V Z → jBm V fp fp' → ∃ Y,(Instr.endRound (D + 1) jump).run P Z = .ok (.bool jump.isNone) Y ∧ Gr (fun k => fp k ∨ k = D ∨ k = D + 1) W Y ∧ jBm W (fun k => fp k ∨ k = D ∨ k = D + 1) (fun k => fp' k ∨ k = D ∨ k = D + 1) ∧ ¬ fp' D ∧ ¬ fp' (D + 1) ∧ Y.heap[D + 1]? = some (.loop (R (if jump.isNone then .ready else .done) jump)) ∧ Y.heap[D]? = some (.deferred (some [])) ∧
     (∀ {J : List α → World → (Nat → Prop) → Prop} {q : List α},jD5 w.heap.size J → J q Z fp' → J q Y fp'):=fun jump Z fp' hZ hG => by
    have lZ:=(hZ.block (D + 1) (by omega) nE).trans lV
    have dZ:=(hZ.block D (by omega) nD).trans dV
    have zlt : D + 1 < Z.heap.size:=(Array.getElem?_eq_some_iff.1 lZ).1
    have nD' : ¬ fp' D:=fun h => (hG D h).elim nD fun h => by omega
    have nE' : ¬ fp' (D + 1):=fun h => (hG (D + 1) h).elim nE fun h => by omega
    have hr:=run_endRound (P:=P) jump lZ
    rw [eR] at hr
    refine ⟨Z.putObj (D + 1) (.loop (R (if jump.isNone then .ready else .done) jump)),?_,?_,?_,nD',nE',World.putObj_heap_same zlt,(World.putObj_heap_other (by omega)).trans dZ,fun hJ hj => hJ _ _ _ _ hj (jEj _ (show w.heap.size ≤ D + 1 by omega)) fun k hk => World.putObj_heap_other fun e => nE' (by rw [← e];exact hk)⟩
    ·rw [eR]
     exact hr
    ·exact ((gV.mono fun k hk => .inr (.inr hk)).trans (hZ.mono fun k hk => .inl hk)).trans (jEj _ (.inr (.inr rfl)))
    ·rintro k (hk | hk)
     ·rcases hG k hk with h | h
      ·exact .inl (.inl h)
      ·exact .inr (by omega)
     ·exact .inl (.inr hk)
   rintro e b Z hp
   cases e with
   | normal =>
    obtain ⟨fp',p1,p2,p3⟩:=hp
    obtain ⟨Y,hr,gY,gr,n1,n2,lY,dY,keep⟩:=tail none Z fp' p1 p2
    exact ⟨_,_,hr,_,gY,gr,.inl ⟨rfl,fp',rfl,keep hI p3,n1,n2,lY,dY⟩⟩
   | ret =>
    obtain ⟨fp',p1,p2,p3⟩:=hp
    obtain ⟨Y,hr,gY,gr,n1,n2,lY,dY,keep⟩:=tail (some .ret) Z fp' p1 p2
    exact ⟨_,_,hr,_,gY,gr,.inr ⟨rfl,fp',.ret,rfl,keep (hIx _) p3,n1,n2,lY,dY⟩⟩
   | exit id =>
    obtain ⟨fp',p1,p2,p3⟩:=hp
    obtain ⟨Y,hr,gY,gr,n1,n2,lY,dY,keep⟩:=tail (some (.exit id)) Z fp' p1 p2
    exact ⟨_,_,hr,_,gY,gr,.inr ⟨rfl,fp',.exit id,rfl,keep (hIx _) p3,n1,n2,lY,dY⟩⟩
   | goto t =>
    obtain ⟨fp',p1,p2,p3⟩:=hp
    obtain ⟨Y,hr,gY,gr,n1,n2,lY,dY,keep⟩:=tail (some (.goto t)) Z fp' p1 p2
    exact ⟨_,_,hr,_,gY,gr,.inr ⟨rfl,fp',.goto t,rfl,keep (hIx _) p3,n1,n2,lY,dY⟩⟩
   | panic ch => exact hp.elim
   | outgrown => exact hp.elim
  case behind =>
   rintro e W2 ⟨⟨v,rfl⟩,⟨xs,fpx,hS,fp,rfl,hi,nD,nE,hl,hd⟩ | ⟨pre,fpx,hSp,fp,c,rfl,hi,nD,nE,hl,hd⟩⟩
   ·have hr:=run_endLoop (P:=P) hl (by rw [eR];simp)
    rw [eR] at hr
    exact ⟨none,_,hr,hdone D xs _ fp (by omega) hS (hI _ _ _ _ hi (jEj _ (show w.heap.size ≤ D + 1 by omega)) fun k hk => World.putObj_heap_other fun e => nE (by rw [← e];exact hk)) ((World.putObj_heap_other (by omega)).trans hd) nD⟩
   ·have hr:=run_endLoop (P:=P) hl (by rw [eR];simp)
    rw [eR] at hr
    exact ⟨some c,_,hr,hstop D c pre _ fp (by omega) hSp (hIx c _ _ _ _ hi (jEj _ (show w.heap.size ≤ D + 1 by omega)) fun k hk => World.putObj_heap_other fun e => nE (by rw [← e];exact hk)) ((World.putObj_heap_other (by omega)).trans hd) nD⟩
end
section
open Go.RowKit Go.Shelf
def jHd {α : Type} (F : Fence) (n : Nat) (P : Program) (g : Nat) (lb : Array Value) (encs : α → Array Value) (give : α → jAd) (own : Nat → Prop) (S Sp : List α → Prop) (w : World) : Prop :=
 ∀ (l : Nat) (J Jx : List α → World → (Nat → Prop) → Prop) (fp0 : Nat → Prop) (W : World),Below w.heap.size w W → jD5 W.heap.size J → jD5 W.heap.size Jx →
  (∀ pre V fp,J pre V fp → ∀ k,fp k → k < V.heap.size ∧ ¬ own k) →
  (∀ pre x V fp,J pre V fp → Sp (pre ++ [x]) → (give x).q V → (∀ k,(give x).own k → W.heap.size ≤ k ∧ k < V.heap.size ∧ ¬ fp k) → YieldAt F (n - 1) P l (encs x) V fun e V' => ∃ fp',Gr fp V V' ∧ jBm V (fun k => fp k ∨ (give x).own k) fp' ∧
   ((e = .returned (.bool true) ∧ J (pre ++ [x]) V' fp') ∨ (e = .returned (.bool false) ∧ Jx (pre ++ [x]) V' fp'))) →
  J [] W fp0 →
  CallsIn F n P g (#[.func (.yield l) #[] #[]] ++ lb) W fun e W' => (∃ v,e = .returned v) ∧ ((∃ xs fp,S xs ∧ J xs W' fp) ∨ (∃ pre fp,Sp pre ∧ Jx pre W' fp))
theorem jHd.wide {α : Type} {F : Fence} {n : Nat} {P : Program} {g : Nat} {lb : Array Value} {encs : α → Array Value} {give : α → jAd} {own own' : Nat → Prop} {S Sp : List α → Prop} {w : World} (h : jHd F n P g lb encs give own S Sp w) (ho : ∀ k,own k → own' k) : jHd F n P g lb encs give own' S Sp w :=
 fun l J Jx fp0 W hW hJ hJx hfp hY h0 => h l J Jx fp0 W hW hJ hJx (fun pre V fp hj k hk => ⟨(hfp pre V fp hj k hk).1,fun hk' => (hfp pre V fp hj k hk).2 (ho k hk')⟩) hY h0
def jX2 {α : Type} (fp gv : Nat → Prop) (I : List α → World → (Nat → Prop) → Prop) (Ix : Code → List α → World → (Nat → Prop) → Prop) (xs : List α) (W : World) : Exit → Act → World → Prop
 | .normal,_,V => ∃ fp',Gr fp W V ∧ jBm W (fun k => fp k ∨ gv k) fp' ∧ I xs V fp'
 | .ret,_,V => ∃ fp',Gr fp W V ∧ jBm W (fun k => fp k ∨ gv k) fp' ∧ Ix .ret xs V fp'
 | .exit id,_,V => ∃ fp',Gr fp W V ∧ jBm W (fun k => fp k ∨ gv k) fp' ∧ Ix (.exit id) xs V fp'
 | .goto t,_,V => ∃ fp',Gr fp W V ∧ jBm W (fun k => fp k ∨ gv k) fp' ∧ Ix (.goto t) xs V fp'
 | .panic _,_,_ => False
 | .outgrown,_,_ => False
theorem kDu {F : Fence} {n : Nat} {P : Program} {α : Type} {g : Operand} {ps : Array Tmp} {assign body : Code} {Q : Exit → Act → World → Prop} {a : Act} {w : World}
  (hro : F.round = none) (h1 : 1 ≤ n) {gf : Nat} {lb : Array Value} (hg : a.eval g = .func (.func gf) #[] lb) (hFg : F.fn gf) (eg : ∀ args w,(callFunc gf args).run P w = .ok (.enter gf args) w)
  {encs : α → Array Value} {give : α → jAd} {own : Nat → Prop} {S Sp : List α → Prop} {w0 : World} (hseq : jHd F (n - 1) P gf lb encs give own S Sp w0) (hb0 : Below w0.heap.size w0 w) (hown : ∀ k,own k → k < w.heap.size) (hps : ∀ x,(encs x).size = ps.size)
  (I : List α → World → (Nat → Prop) → Prop) (Ix : Code → List α → World → (Nat → Prop) → Prop) (fp0 : Nat → Prop) (hI : jD5 w.heap.size I) (hIx : ∀ c,jD5 w.heap.size (Ix c)) (hfp : ∀ pre V fp,I pre V fp → ∀ k,fp k → k < V.heap.size ∧ ¬ own k) (h0 : I [] w fp0) (act : α → Act)
  (hassign : ∀ (l : Nat) (x : α) (W : World) (K : Act → World → Prop),K (act x) W →
   assign.wpIn (F.inRound l) (n - 1 - 1) P (Exit.then K (fun _ _ _ => False)) { tmps:=(ps.zip (encs x)).foldl (fun t (p,v) => t.setIfInBounds p v) a.tmps,defers:=[] } W)
  (hbody : ∀ (l : Nat) (pre : List α) (x : α) (W : World) (fp : Nat → Prop),I pre W fp → Sp (pre ++ [x]) → (give x).q W → (∀ k,(give x).own k → w.heap.size ≤ k ∧ k < W.heap.size ∧ ¬ fp k) → body.wpIn (F.inRound l) (n - 1 - 1) P (jX2 fp (give x).own I Ix (pre ++ [x]) W) (act x) W)
  (hdone : ∀ (D : Nat) (xs : List α) (W : World) (fp : Nat → Prop),w.heap.size ≤ D → S xs → I xs W fp → W.heap[D]? = some (.deferred (some [])) → ¬ fp D → Q .normal { a with defers:={ target:=.collected D,args:=#[] } :: a.defers } W)
  (hstop : ∀ (D : Nat) (c : Code) (pre : List α) (W : World) (fp : Nat → Prop),w.heap.size ≤ D → Sp pre → Ix c pre W fp → W.heap[D]? = some (.deferred (some [])) → ¬ fp D → c.wpIn F n P Q { a with defers:={ target:=.collected D,args:=#[] } :: a.defers } W) :
  (Code.rangeFunc g ps assign body).wpIn F n P Q a w:=by
 refine wpIn_rangeFunc fun fn hfn => ?_
 rw [hro]
 obtain ⟨D,eD⟩ : ∃ D,D = w.heap.size:=⟨_,rfl⟩
 obtain ⟨R,eR⟩ : ∃ R : LoopState → Option Code → Loop,R = fun st pe => { state:=st,pending:=pe,fn,tmps:=a.tmps,params:=ps,assign,body,defers:=D }:=⟨_,rfl⟩
 obtain ⟨X,eX⟩ : ∃ X,X = (w.alloc (.deferred (some []))).alloc (.loop (R .ready none)):=⟨_,rfl⟩
 have sX : X.heap.size = D + 2:=by rw [eX,eD,World.size_alloc,World.size_alloc]
 have lX : X.heap[D + 1]? = some (.loop (R .ready none)):=by
  have:=World.alloc_heap_new (w.alloc (.deferred (some []))) (.loop (R .ready none))
  rw [World.size_alloc,← eD,← eX] at this
  exact this
 have dX : X.heap[D]? = some (.deferred (some [])):=by
  rw [eX,Below.heap_alloc _ _ _ (by rw [World.size_alloc];omega),eD]
  exact World.alloc_heap_new w _
 have gX : w.grownBy X none:=by
  rw [eX]
  exact jAt (World.grownBy_alloc _ _ _) (World.grownBy_alloc _ _ _)
 have iX : I [] X fp0:=hI _ _ _ _ h0 ⟨gX.1,gX.2,gX.3,gX.4,fun k hk _ => gX.5 k hk (by simp)⟩ fun k hk => gX.5 k (hfp _ _ _ h0 k hk).1 (by simp)
 have bX : Below w0.heap.size w0 X:=by
  rw [eX]
  exact hb0.trans ((((Below.refl _ w).alloc (Nat.le_refl _) _).alloc (by rw [World.size_alloc];omega) _).mono hb0.size)
 have f0 : ¬ fp0 D ∧ ¬ fp0 (D + 1):=⟨fun h => by have:=(hfp _ _ _ h0 _ h).1;omega,fun h => by have:=(hfp _ _ _ h0 _ h).1;omega⟩
 refine ⟨D + 1,[{ target:=.collected D,args:=#[] }],X,{ target:=.fn (.func gf) lb,args:=#[.func (.yield (D + 1)) #[] #[]] },X,gf,#[.func (.yield (D + 1)) #[] #[]] ++ lb,X,?enter,?res,?leads,?inv,fun _ => h1,?call⟩
 case enter =>
  rw [eX,eR,eD]
  exact run_enterLoop_outer _ _ _ _ _
 case res =>
  simp only [resolve,hg]
  simp [go_sem]
 case leads =>
  intro f' hf'
  simp [Target.leads] at hf'
  subst hf'
  exact hFg
 case inv => simp [invoke,go_sem,eg]
 case call =>
  have grow : ∀ {A B : World},Gr (fun k => X.heap.size ≤ k) A B → Gr (fun k => w.heap.size ≤ k) A B:=fun h => h.mono fun k hk => by omega
  have oJ : jD5 X.heap.size (fun pre W fpx => ∃ fp,fpx = (fun k => fp k ∨ k = D ∨ k = D + 1) ∧ I pre W fp ∧ ¬ fp D ∧ ¬ fp (D + 1) ∧ W.heap[D + 1]? = some (.loop (R .ready none)) ∧ W.heap[D]? = some (.deferred (some []))):=by
   rintro pre A B fpx ⟨fp,rfl,h2,h3,h4,h5,h6⟩ hg' hs
   exact ⟨fp,rfl,hI _ _ _ _ h2 (grow hg') (fun k hk => hs k (.inl hk)),h3,h4,(hs _ (.inr (.inr rfl))).trans h5,(hs _ (.inr (.inl rfl))).trans h6⟩
  have oK : jD5 X.heap.size (fun pre W fpx => ∃ fp c,fpx = (fun k => fp k ∨ k = D ∨ k = D + 1) ∧ Ix c pre W fp ∧ ¬ fp D ∧ ¬ fp (D + 1) ∧ W.heap[D + 1]? = some (.loop (R .done (some c))) ∧ W.heap[D]? = some (.deferred (some []))):=by
   rintro pre A B fpx ⟨fp,c,rfl,h2,h3,h4,h5,h6⟩ hg' hs
   exact ⟨fp,c,rfl,hIx c _ _ _ _ h2 (grow hg') (fun k hk => hs k (.inl hk)),h3,h4,(hs _ (.inr (.inr rfl))).trans h5,(hs _ (.inr (.inl rfl))).trans h6⟩
  refine (hseq (D + 1) _ _ _ X bX oJ oK ?foot ?round ⟨fp0,rfl,iX,f0.1,f0.2,lX,dX⟩).mono ?behind
  case foot =>
   rintro pre V fpx ⟨fp,rfl,h2,-,-,h5,h6⟩ k (hk | rfl | rfl)
   ·exact hfp _ _ _ h2 k hk
   ·exact ⟨(Array.getElem?_eq_some_iff.1 h6).1,fun ho => by have:=hown _ ho;omega⟩
   ·exact ⟨(Array.getElem?_eq_some_iff.1 h5).1,fun ho => by have:=hown _ ho;omega⟩
  case round =>
   rintro pre x W fpx ⟨fp,rfl,hi,nD,nE,hl,hd⟩ hsp hgq hgo
   have hlt : D + 1 < W.heap.size:=(Array.getElem?_eq_some_iff.1 hl).1
   have hy:=run_yield (P:=P) (args:=encs x) hl (by rw [eR];exact hps x)
   rw [eR] at hy
   refine ⟨fn,_,assign,body,hy,roundIn_of_wpIn hfn (hassign _ x W _ ⟨_,run_beginRound hl (by rw [eR]),?_⟩)⟩
   obtain ⟨V,eV⟩ : ∃ V,V = W.putObj (D + 1) (.loop { R .ready none with state:=.busy }):=⟨_,rfl⟩
   have lV : V.heap[D + 1]? = some (.loop { R .ready none with state:=.busy }):=by rw [eV];exact World.putObj_heap_same hlt
   have dV : V.heap[D]? = some (.deferred (some [])):=by rw [eV];exact (World.putObj_heap_other (by omega)).trans hd
   have gV : Gr (fun k => k = D + 1) W V:=by rw [eV];exact jEj _ rfl
   have iV : I pre V fp:=hI _ _ _ _ hi (gV.mono fun k hk => by omega) fun k hk => by rw [eV];exact World.putObj_heap_other fun e => nE (by rw [← e];exact hk)
   have sV : V.heap.size = W.heap.size:=by rw [eV];simp [World.putObj]
   have gnD : ∀ k,(give x).own k → k ≠ D ∧ k ≠ D + 1:=fun k hk => by have:=(hgo k hk).1;omega
   have gq : (give x).q V:=(give x).on W V hgq fun k hk => by rw [eV];exact World.putObj_heap_other (gnD k hk).2
   rw [← eV]
   refine wpIn_mono (hbody _ pre x V fp iV hsp gq fun k hk => ⟨by have:=(hgo k hk).1;omega,by rw [sV];exact (hgo k hk).2.1,fun hf => (hgo k hk).2.2 (.inl hf)⟩) ?_
   have tail : ∀ (jump : Option Code) (Z : World) (fp' : Nat → Prop),Gr fp V Z → jBm V (fun k => fp k ∨ (give x).own k) fp' → ∃ Y,(Instr.endRound (D + 1) jump).run P Z = .ok (.bool jump.isNone) Y ∧ Gr (fun k => fp k ∨ k = D ∨ k = D + 1) W Y ∧ jBm W (fun k => (fp k ∨ k = D ∨ k = D + 1) ∨ (give x).own k) (fun k => fp' k ∨ k = D ∨ k = D + 1) ∧ ¬ fp' D ∧ ¬ fp' (D + 1) ∧ Y.heap[D + 1]? = some (.loop (R (if jump.isNone then .ready else .done) jump)) ∧ Y.heap[D]? = some (.deferred (some [])) ∧
     (∀ {J : List α → World → (Nat → Prop) → Prop} {q : List α},jD5 w.heap.size J → J q Z fp' → J q Y fp'):=fun jump Z fp' hZ hG => by
    have lZ:=(hZ.block (D + 1) (by omega) nE).trans lV
    have dZ:=(hZ.block D (by omega) nD).trans dV
    have zlt : D + 1 < Z.heap.size:=(Array.getElem?_eq_some_iff.1 lZ).1
    have nD' : ¬ fp' D:=fun h => (hG D h).elim (fun h => h.elim nD fun h => (gnD D h).1 rfl) fun h => by omega
    have nE' : ¬ fp' (D + 1):=fun h => (hG (D + 1) h).elim (fun h => h.elim nE fun h => (gnD (D + 1) h).2 rfl) fun h => by omega
    have hr:=run_endRound (P:=P) jump lZ
    rw [eR] at hr
    refine ⟨Z.putObj (D + 1) (.loop (R (if jump.isNone then .ready else .done) jump)),?_,?_,?_,nD',nE',World.putObj_heap_same zlt,(World.putObj_heap_other (by omega)).trans dZ,fun hJ hj => hJ _ _ _ _ hj (jEj _ (show w.heap.size ≤ D + 1 by omega)) fun k hk => World.putObj_heap_other fun e => nE' (by rw [← e];exact hk)⟩
    ·rw [eR]
     exact hr
    ·exact ((gV.mono fun k hk => .inr (.inr hk)).trans (hZ.mono fun k hk => .inl hk)).trans (jEj _ (.inr (.inr rfl)))
    ·rintro k (hk | hk)
     ·rcases hG k hk with (h | h) | h
      ·exact .inl (.inl (.inl h))
      ·exact .inl (.inr h)
      ·exact .inr (by omega)
     ·exact .inl (.inl (.inr hk))
   rintro e b Z hp
   cases e with
   | normal =>
    obtain ⟨fp',p1,p2,p3⟩:=hp
    obtain ⟨Y,hr,gY,gr,n1,n2,lY,dY,keep⟩:=tail none Z fp' p1 p2
    exact ⟨_,_,hr,_,gY,gr,.inl ⟨rfl,fp',rfl,keep hI p3,n1,n2,lY,dY⟩⟩
   | ret =>
    obtain ⟨fp',p1,p2,p3⟩:=hp
    obtain ⟨Y,hr,gY,gr,n1,n2,lY,dY,keep⟩:=tail (some .ret) Z fp' p1 p2
    exact ⟨_,_,hr,_,gY,gr,.inr ⟨rfl,fp',.ret,rfl,keep (hIx _) p3,n1,n2,lY,dY⟩⟩
   | exit id =>
    obtain ⟨fp',p1,p2,p3⟩:=hp
    obtain ⟨Y,hr,gY,gr,n1,n2,lY,dY,keep⟩:=tail (some (.exit id)) Z fp' p1 p2
    exact ⟨_,_,hr,_,gY,gr,.inr ⟨rfl,fp',.exit id,rfl,keep (hIx _) p3,n1,n2,lY,dY⟩⟩
   | goto t =>
    obtain ⟨fp',p1,p2,p3⟩:=hp
    obtain ⟨Y,hr,gY,gr,n1,n2,lY,dY,keep⟩:=tail (some (.goto t)) Z fp' p1 p2
    exact ⟨_,_,hr,_,gY,gr,.inr ⟨rfl,fp',.goto t,rfl,keep (hIx _) p3,n1,n2,lY,dY⟩⟩
   | panic ch => exact hp.elim
   | outgrown => exact hp.elim
  case behind =>
   rintro e W2 ⟨⟨v,rfl⟩,⟨xs,fpx,hS,fp,rfl,hi,nD,nE,hl,hd⟩ | ⟨pre,fpx,hSp,fp,c,rfl,hi,nD,nE,hl,hd⟩⟩
   ·have hr:=run_endLoop (P:=P) hl (by rw [eR];simp)
    rw [eR] at hr
    exact ⟨none,_,hr,hdone D xs _ fp (by omega) hS (hI _ _ _ _ hi (jEj _ (show w.heap.size ≤ D + 1 by omega)) fun k hk => World.putObj_heap_other fun e => nE (by rw [← e];exact hk)) ((World.putObj_heap_other (by omega)).trans hd) nD⟩
   ·have hr:=run_endLoop (P:=P) hl (by rw [eR];simp)
    rw [eR] at hr
    exact ⟨some c,_,hr,hstop D c pre _ fp (by omega) hSp (hIx c _ _ _ _ hi (jEj _ (show w.heap.size ≤ D + 1 by omega)) fun k hk => World.putObj_heap_other fun e => nE (by rw [← e];exact hk)) ((World.putObj_heap_other (by omega)).trans hd) nD⟩
end
section
open Go.RowKit Go.Shelf
theorem jS0 {w W : World} {R D : Nat} {t : TypeId} {b0 b : Bool} (hR : Boxed W R t (.bool b0)) (hD : w.heap.size ≤ D) (hRD : R ≠ D) (hwR : w.heap.size ≤ R) (hB : Below w.heap.size w W) (hK : W.heap[D]? = some (.deferred (some []))) :
  (W.setCell ⟨R,0,none⟩ (.bool b)).heap[D]? = some (.deferred (some [])) ∧ ((W.setCell ⟨R,0,none⟩ (.bool b)).putObj D (.deferred none)).cell? ⟨R,0,none⟩ = some (.bool b) ∧ Below w.heap.size w ((W.setCell ⟨R,0,none⟩ (.bool b)).putObj D (.deferred none)):=by
 have h1:=(KeepsOthers.setCell W ⟨R,0,none⟩ (.bool b)).same D _ hK rfl
 refine ⟨h1,?_,?_⟩
 ·rw [World.cell?_of_block (w:=W.setCell ⟨R,0,none⟩ (.bool b)) (World.putObj_heap_other hRD)]
  exact (hR.set (.bool b)).cell
 ·exact (hB.setCell (p:=⟨R,0,none⟩) hwR (.bool b)).trans (belowK_b (w:=w) (Nat.le_refl _) _ D _ _ hD h1 rfl rfl)
end
end Go.Proofs.YtkfeafmpaodagaaGreatDoor
