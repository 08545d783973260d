/- A range over a function that itself ranges over another function: the loop's law, and the iterator's contract that it asks. Our own, over the library's rule for one such loop: what a caller keeps in mind must outlast the inner loop's records too, so the contract hands the iterator a word that does. Conditions: the body writes no block that was laid since its loop began. -/
import Derived.RangeFuncNested
import Derived.RangeFuncBound
import Derived.RangeFuncCalls
import Derived.RangeFuncLeaves
import Derived.RangeFuncBox
import Derived.Shelf.Abstract
import Derived.Shelf.RegionOpen
import Derived.OwnWalkIn
import Derived.TacticsInMore
import Derived.LoopNIn
import Derived.LoopIn
import Derived.Test.YthofdmepofepgaaDoorG00Joined
namespace Go.Proofs.YthofdmepofepgaaDoor
open Go.RowKit Go.Shelf

/-- Whatever lay at block B or beyond lies as it lay. -/
structure Since (B : Nat) (W W' : World) : Prop where
  size : W.heap.size ≤ W'.heap.size
  same : ∀ k, B ≤ k → k < W.heap.size → W'.heap[k]? = W.heap[k]?
theorem Since.refl (B : Nat) (W : World) : Since B W W := ⟨Nat.le_refl _, fun _ _ _ => rfl⟩
theorem Since.trans {B : Nat} {X Y Z : World} (h : Since B X Y) (k : Since B Y Z) : Since B X Z :=
  ⟨Nat.le_trans h.size k.size, fun i hi hl => (k.same i hi (Nat.lt_of_lt_of_le hl h.size)).trans (h.same i hi hl)⟩
theorem Since.mono {B C : Nat} {X Y : World} (h : Since B X Y) (hc : B ≤ C) : Since C X Y := ⟨h.size, fun i hi hl => h.same i (Nat.le_trans hc hi) hl⟩
theorem Since.grown {B : Nat} {X Y : World} {row : Option Nat} (hg : X.grownBy Y row) (hr : ∀ r, row = some r → r < B) : Since B X Y :=
  ⟨hg.size, fun i hi hl => hg.block i hl (fun e => by have := hr i e.symm; omega)⟩
theorem Since.drew (B : Nat) (X : World) : Since B X X.drew := ⟨Nat.le_refl _, fun _ _ _ => rfl⟩
theorem Since.keeps {B C : Nat} {X Y : World} (h : Since B X Y) (hc : B ≤ C) : KeepsFrom C X Y :=
  ⟨h.size, fun k _ hk ho _ => (h.same k (Nat.le_trans hc hk) (Array.getElem?_eq_some_iff.1 ho).1).trans ho⟩
theorem Since.block {B k : Nat} {X Y : World} {o : Obj} (h : Since B X Y) (hk : B ≤ k) (ho : X.heap[k]? = some o) : Y.heap[k]? = some o :=
  (h.same k hk (Array.getElem?_eq_some_iff.1 ho).1).trans ho
theorem Since.boxed {B k : Nat} {X Y : World} {t : TypeId} {v : Value} (h : Since B X Y) (hk : B ≤ k) (hb : Boxed X k t v) : Boxed Y k t v := h.block hk hb
theorem Since.put {B l : Nat} {X : World} (o : Obj) (h : l < B) : Since B X (X.putObj l o) := by
  refine ⟨?_, fun k hk _ => World.putObj_heap_other (show k ≠ l by omega)⟩
  have := (grownBy_putObj' X l o).size
  exact this

theorem own_more {β : Type} {B C : Nat} {I : β → World → Prop} (h : OwnFrom B I) (hc : B ≤ C) : OwnFrom C I := fun s W W' row hs hg hr =>
  h s W W' row hs hg fun r e => ⟨Nat.le_trans hc (hr r e).1, (hr r e).2⟩
/-- An elder block lies as it lay. -/
theorem own_old {β : Type} {B k : Nat} (o : Obj) (h : k < B) : OwnFrom B (fun (_ : β) W => W.heap[k]? = some o) := fun _ W W' row hs hg hr =>
  (hg.block k (Array.getElem?_eq_some_iff.1 hs).1 (fun e => by have := (hr k e.symm).1; omega)).trans hs
theorem own_grown {β : Type} {B : Nat} {w : World} {x : Option Nat} (h : w.heap.size ≤ B) : OwnFrom B (fun (_ : β) W => w.grownBy W x) := fun _ _ _ _ hs hg hr =>
  ⟨hg.1.trans hs.1, hg.2.trans hs.2, hg.3.trans hs.3, Nat.le_trans hs.4 hg.4, fun k hk hx => (hg.5 k (Nat.lt_of_lt_of_le hk hs.4) (fun e => by have := (hr k e.symm).1; omega)).trans (hs.5 k hk hx)⟩
theorem own_drew {β : Type} {B : Nat} {I : β → World → Prop} (h : OwnFrom B I) {s : β} {W : World} (hs : I s W) : I s W.drew :=
  h s W W.drew none hs ⟨rfl, rfl, rfl, Nat.le_refl _, fun _ _ _ => rfl⟩ (fun _ e => by cases e)
theorem own_put {β : Type} {B : Nat} {I : β → World → Prop} (h : OwnFrom B I) {s : β} {W : World} {l : Nat} {o : Obj} (o' : Obj) (hs : I s W) (hl : B ≤ l) (ho : W.heap[l]? = some o) (hc : o.isCells = false) : I s (W.putObj l o') :=
  h s W _ (some l) hs (grownBy_putObj' W l o') (fun r e => by cases e; exact ⟨hl, o, ho, hc⟩)
theorem own_new {β : Type} {B : Nat} {I : β → World → Prop} (h : OwnFrom B I) {s : β} {W : World} (o : Obj) (hs : I s W) : I s (W.alloc o) :=
  h s W _ none hs (World.grownBy_alloc W o none) (fun _ e => by cases e)

/-- The contract of a function that may range over another one: whatever the caller keeps in mind outlasts new blocks, and turns of such blocks laid since the call began as hold no cells; each round keeps all blocks laid since the call began. -/
def SeqOwn {α : Type} (F : Fence) (n : Nat) (P : Program) (g : Nat) (lb : Array Value) (encs : α → Array Value) (S Sp : List α → Prop) (N : Nat) (w : World) : Prop :=
  ∀ (l : Nat) (J Jx : List α → World → Prop) (W : World), Below w.heap.size w W → OwnFrom W.heap.size J → OwnFrom W.heap.size Jx →
    (∀ pre x V, J pre V → pre.length < N → YieldAt F (n - 1) P l (encs x) V fun e V' =>
      Since W.heap.size V V' ∧ ((e = .returned (.bool true) ∧ J (pre ++ [x]) V') ∨ (e = .returned (.bool false) ∧ Jx (pre ++ [x]) V'))) →
    J [] W →
    CallsIn F n P g (#[.func (.yield l) #[] #[]] ++ lb) W fun e W' => (∃ v, e = .returned v) ∧ ((∃ xs, S xs ∧ J xs W') ∨ (∃ pre, Sp pre ∧ Jx pre W'))

/-- How a round's body may end. -/
def sincePost {α : Type} (B : Nat) (I : List α → World → Prop) (Ix : Code → List α → World → Prop) (xs : List α) (W : World) : Exit → Act → World → Prop
  | .normal, _, V => Since B W V ∧ I xs V
  | .ret, _, V => Since B W V ∧ Ix .ret xs V
  | .exit id, _, V => Since B W V ∧ Ix (.exit id) xs V
  | .goto t, _, V => Since B W V ∧ Ix (.goto t) xs V
  | .panic _, _, _ => False
  | .outgrown, _, _ => False

theorem range_own {F : Fence} {n : Nat} {P : Program} {α : Type} {g : Operand} {ps : Array Tmp} {assign body : Code} {Q : Exit → Act → World → Prop} {a : Act} {w : World}
    (hro : F.round = none) (h1 : 1 ≤ n) {gf : Nat} {lb : Array Value} (hg : a.eval g = .func (.func gf) #[] lb) (hFg : F.fn gf) (eg : ∀ args w, (callFunc gf args).run P w = .ok (.enter gf args) w)
    {encs : α → Array Value} {S Sp : List α → Prop} {N : Nat} {w0 : World} (hseq : SeqOwn F (n - 1) P gf lb encs S Sp N w0) (hb0 : Below w0.heap.size w0 w) (hps : ∀ x, (encs x).size = ps.size)
    (I : List α → World → Prop) (Ix : Code → List α → World → Prop) (hI : OwnFrom w.heap.size I) (hIx : ∀ c, OwnFrom w.heap.size (Ix c)) (h0 : I [] w) (act : α → Act)
    (hassign : ∀ (l : Nat) (x : α) (W : World) (K : Act → World → Prop), K (act x) W →
      assign.wpIn (F.inRound l) (n - 1 - 1) P (Exit.then K (fun _ _ _ => False)) { tmps := (ps.zip (encs x)).foldl (fun t (p, v) => t.setIfInBounds p v) a.tmps, defers := [] } W)
    (hbody : ∀ (l : Nat) (pre : List α) (x : α) (W : World), I pre W → pre.length < N → body.wpIn (F.inRound l) (n - 1 - 1) P (sincePost w.heap.size I Ix (pre ++ [x]) W) (act x) W)
    (hdone : ∀ (D : Nat) (xs : List α) (W : World), w.heap.size ≤ D → S xs → I xs W → W.heap[D]? = some (.deferred (some [])) → Q .normal { a with defers := { target := .collected D, args := #[] } :: a.defers } W)
    (hstop : ∀ (D : Nat) (c : Code) (pre : List α) (W : World), w.heap.size ≤ D → Sp pre → Ix c pre W → W.heap[D]? = some (.deferred (some [])) → c.wpIn F n P Q { a with defers := { target := .collected D, args := #[] } :: a.defers } W) :
    (Code.rangeFunc g ps assign body).wpIn F n P Q a w := by
  refine wpIn_rangeFunc fun fn hfn => ?_
  rw [hro]
  obtain ⟨D, eD⟩ : ∃ D, D = w.heap.size := ⟨_, rfl⟩
  obtain ⟨R, eR⟩ : ∃ R : LoopState → Option Code → Loop, R = fun st pe => { state := st, pending := pe, fn, tmps := a.tmps, params := ps, assign, body, defers := D } := ⟨_, rfl⟩
  obtain ⟨X, eX⟩ : ∃ X, X = (w.alloc (.deferred (some []))).alloc (.loop (R .ready none)) := ⟨_, rfl⟩
  have sX : X.heap.size = D + 2 := by rw [eX, eD, World.size_alloc, World.size_alloc]
  have lX : X.heap[D + 1]? = some (.loop (R .ready none)) := by
    have := World.alloc_heap_new (w.alloc (.deferred (some []))) (.loop (R .ready none))
    rw [World.size_alloc, ← eD, ← eX] at this
    exact this
  have dX : X.heap[D]? = some (.deferred (some [])) := by
    rw [eX, Below.heap_alloc _ _ _ (by rw [World.size_alloc]; omega), eD]
    exact World.alloc_heap_new w _
  have iX : I [] X := by rw [eX]; exact own_new hI _ (own_new hI _ h0)
  have bX : Below w0.heap.size w0 X := by
    rw [eX]
    exact hb0.trans ((((Below.refl _ w).alloc (Nat.le_refl _) _).alloc (by rw [World.size_alloc]; omega) _).mono hb0.size)
  refine ⟨D + 1, [{ target := .collected D, args := #[] }], X, { target := .fn (.func gf) lb, args := #[.func (.yield (D + 1)) #[] #[]] }, X, gf, #[.func (.yield (D + 1)) #[] #[]] ++ lb, X, ?enter, ?res, ?leads, ?inv, fun _ => h1, ?call⟩
  case enter =>
    rw [eX, eR, eD]
    exact run_enterLoop_outer _ _ _ _ _
  case res =>
    simp only [resolve, hg]
    simp [go_sem]
  case leads =>
    intro f' hf'
    simp [Target.leads] at hf'
    subst hf'
    exact hFg
  case inv => simp [invoke, go_sem, eg]
  case call =>
    have oJ : OwnFrom X.heap.size (fun pre W => I pre W ∧ W.heap[D + 1]? = some (.loop (R .ready none)) ∧ W.heap[D]? = some (.deferred (some []))) :=
      OwnFrom.and (own_more hI (by omega)) (OwnFrom.and (own_old _ (by omega)) (own_old _ (by omega)))
    have oK : OwnFrom X.heap.size (fun pre W => ∃ c, Ix c pre W ∧ W.heap[D + 1]? = some (.loop (R .done (some c))) ∧ W.heap[D]? = some (.deferred (some []))) := fun s A B row hs hg' hr => by
      obtain ⟨c, hc⟩ := hs
      exact ⟨c, OwnFrom.and (own_more (hIx c) (by omega)) (OwnFrom.and (own_old _ (by omega)) (own_old _ (by omega))) s A B row hc hg' hr⟩
    refine (hseq (D + 1) _ _ X bX oJ oK ?round ⟨iX, lX, dX⟩).mono ?behind
    case round =>
      rintro pre x W ⟨hi, hl, hd⟩ hlen
      have hlt : D + 1 < W.heap.size := (Array.getElem?_eq_some_iff.1 hl).1
      have hy := run_yield (P := P) (args := encs x) hl (by rw [eR]; exact hps x)
      rw [eR] at hy
      refine ⟨fn, _, assign, body, hy, roundIn_of_wpIn hfn (hassign _ x W _ ⟨_, run_beginRound hl (by rw [eR]), ?_⟩)⟩
      obtain ⟨V, eV⟩ : ∃ V, V = W.putObj (D + 1) (.loop { R .ready none with state := .busy }) := ⟨_, rfl⟩
      have lV : V.heap[D + 1]? = some (.loop { R .ready none with state := .busy }) := by rw [eV]; exact World.putObj_heap_same hlt
      have dV : V.heap[D]? = some (.deferred (some [])) := by rw [eV]; exact (World.putObj_heap_other (by omega)).trans hd
      have sV : Since X.heap.size W V := by rw [eV]; exact Since.put _ (by omega)
      have iV : I pre V := by rw [eV]; exact own_put hI _ hi (by omega) hl rfl
      rw [← eV]
      refine wpIn_mono (hbody _ pre x V iV hlen) ?_
      have tail : ∀ (jump : Option Code) (Z : World), Since w.heap.size V Z → ∃ Y, (Instr.endRound (D + 1) jump).run P Z = .ok (.bool jump.isNone) Y ∧ Since X.heap.size W Y ∧ Y.heap[D + 1]? = some (.loop (R (if jump.isNone then .ready else .done) jump)) ∧ Y.heap[D]? = some (.deferred (some [])) ∧
          (∀ {J : List α → World → Prop} {q : List α}, OwnFrom w.heap.size J → J q Z → J q Y) := fun jump Z hZ => by
        have lZ := hZ.block (by omega) lV
        have dZ := hZ.block (by omega) dV
        have zlt : D + 1 < Z.heap.size := (Array.getElem?_eq_some_iff.1 lZ).1
        have hr := run_endRound (P := P) jump lZ
        rw [eR] at hr
        refine ⟨Z.putObj (D + 1) (.loop (R (if jump.isNone then .ready else .done) jump)), ?_, (sV.trans (hZ.mono (by omega))).trans (Since.put _ (by omega)), World.putObj_heap_same zlt, (World.putObj_heap_other (by omega)).trans dZ, fun hJ hj => own_put hJ _ hj (by omega) lZ rfl⟩
        rw [eR]
        exact hr
      rintro e b Z hp
      cases e with
      | normal =>
        obtain ⟨Y, hr, sY, lY, dY, keep⟩ := tail none Z hp.1
        exact ⟨_, _, hr, sY, .inl ⟨rfl, keep hI hp.2, lY, dY⟩⟩
      | ret =>
        obtain ⟨Y, hr, sY, lY, dY, keep⟩ := tail (some .ret) Z hp.1
        exact ⟨_, _, hr, sY, .inr ⟨rfl, .ret, keep (hIx _) hp.2, lY, dY⟩⟩
      | exit id =>
        obtain ⟨Y, hr, sY, lY, dY, keep⟩ := tail (some (.exit id)) Z hp.1
        exact ⟨_, _, hr, sY, .inr ⟨rfl, .exit id, keep (hIx _) hp.2, lY, dY⟩⟩
      | goto t =>
        obtain ⟨Y, hr, sY, lY, dY, keep⟩ := tail (some (.goto t)) Z hp.1
        exact ⟨_, _, hr, sY, .inr ⟨rfl, .goto t, keep (hIx _) hp.2, lY, dY⟩⟩
      | panic ch => exact hp.elim
      | outgrown => exact hp.elim
    case behind =>
      rintro e W2 ⟨⟨v, rfl⟩, ⟨xs, hS, hi, hl, hd⟩ | ⟨pre, hSp, c, hi, hl, hd⟩⟩
      · have hr := run_endLoop (P := P) hl (by rw [eR]; simp)
        rw [eR] at hr
        exact ⟨none, _, hr, hdone D xs _ (by omega) hS (own_put hI _ hi (by omega) hl rfl) ((World.putObj_heap_other (by omega)).trans hd)⟩
      · have hr := run_endLoop (P := P) hl (by rw [eR]; simp)
        rw [eR] at hr
        exact ⟨some c, _, hr, hstop D c pre _ (by omega) hSp (own_put (hIx c) _ hi (by omega) hl rfl) ((World.putObj_heap_other (by omega)).trans hd)⟩

/-- Where all orders of a region meet. -/
def Meets (b : Act) (v : World) : Exit → Act → World → Prop
  | .normal, a, w => a = b ∧ w = v
  | _, _, _ => False
theorem Meets.imp {Q : Exit → Act → World → Prop} {b : Act} {v : World} (h : Q .normal b v) : ∀ e a w, Meets b v e a w → Q e a w := fun e a w => by
  cases e with
  | normal =>
    rintro ⟨rfl, rfl⟩
    exact h
  | _ => exact fun hm => (hm : False).elim
end Go.Proofs.YthofdmepofepgaaDoor
