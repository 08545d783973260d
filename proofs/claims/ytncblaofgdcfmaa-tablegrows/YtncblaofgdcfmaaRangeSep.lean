/- A range over a function that reads memory of its own, and may itself range over functions: the loop's law, and the iterator's contract that it asks. Our own, as RangeOwn's; what a caller keeps in mind has blocks of its own ('fp'), a round writes these and new ones alone, and the iterator writes none of them. Conditions: none. -/
import Derived.Test.YtncblaofgdcfmaaRangeOwn
import Derived.Test.YtncblaofgdcfmaaGrow
namespace Go.Proofs.Ytncblaofgdcfmaa
open Go.RowKit Go.Shelf

def SameOn (own : Nat → Prop) (W W' : World) : Prop := ∀ k, own k → W'.heap[k]? = W.heap[k]?
/-- What is kept in mind outlasts what others write from block B on. -/
def Lasts {α : Type} (B : Nat) (J : List α → World → (Nat → Prop) → Prop) : Prop := ∀ pre V V' fp, J pre V fp → Gr (fun k => B ≤ k) V V' → SameOn fp V V' → J pre V' fp
/-- The contract of a function that goes over what it has in memory. -/
def SeqSep {α : Type} (F : Fence) (n : Nat) (P : Program) (g : Nat) (lb : Array Value) (encs : α → Array Value) (own : Nat → Prop) (S Sp : List α → Prop) (N : Nat) (w : World) : Prop :=
  ∀ (l : Nat) (J Jx : List α → World → (Nat → Prop) → Prop) (fp0 : Nat → Prop) (W : World), Below w.heap.size w W → Lasts W.heap.size J → Lasts W.heap.size Jx →
    (∀ pre V fp, J pre V fp → ∀ k, fp k → k < V.heap.size ∧ ¬ own k) →
    (∀ pre x V fp, J pre V fp → pre.length < N → YieldAt F (n - 1) P l (encs x) V fun e V' => ∃ fp', Gr fp V V' ∧ Grew V fp fp' ∧
      ((e = .returned (.bool true) ∧ J (pre ++ [x]) V' fp') ∨ (e = .returned (.bool false) ∧ Jx (pre ++ [x]) V' fp'))) →
    J [] W fp0 →
    CallsIn F n P g (#[.func (.yield l) #[] #[]] ++ lb) W fun e W' => (∃ v, e = .returned v) ∧ ((∃ xs fp, S xs ∧ J xs W' fp) ∨ (∃ pre fp, Sp pre ∧ Jx pre W' fp))

/-- How a round's body may end. -/
def sepPost {α : Type} (fp : Nat → Prop) (I : List α → World → (Nat → Prop) → Prop) (Ix : Code → List α → World → (Nat → Prop) → Prop) (xs : List α) (W : World) : Exit → Act → World → Prop
  | .normal, _, V => ∃ fp', Gr fp W V ∧ Grew W fp fp' ∧ I xs V fp'
  | .ret, _, V => ∃ fp', Gr fp W V ∧ Grew W fp fp' ∧ Ix .ret xs V fp'
  | .exit id, _, V => ∃ fp', Gr fp W V ∧ Grew W fp fp' ∧ Ix (.exit id) xs V fp'
  | .goto t, _, V => ∃ fp', Gr fp W V ∧ Grew W fp fp' ∧ Ix (.goto t) xs V fp'
  | .panic _, _, _ => False
  | .outgrown, _, _ => False
theorem gr_put {W : World} {l : Nat} {F : Nat → Prop} (o : Obj) (h : F l) : Gr F W (W.putObj l o) := by
  have := grownBy_putObj' W l o
  exact ⟨this.1, this.2, this.3, this.4, fun k hk hf => this.5 k hk (fun e => hf (by cases e; exact h))⟩
theorem Gr.mono {F G : Nat → Prop} {a b : World} (h : Gr F a b) (hG : ∀ k, F k → G k) : Gr G a b := ⟨h.os, h.tape, h.output, h.size, fun k hk hn => h.block k hk fun hf => hn (hG k hf)⟩

theorem range_sep {F : Fence} {n : Nat} {P : Program} {α : Type} {g : Operand} {ps : Array Tmp} {assign body : Code} {Q : Exit → Act → World → Prop} {a : Act} {w : World}
    (hro : F.round = none) (h1 : 1 ≤ n) {gf : Nat} {lb : Array Value} (hg : a.eval g = .func (.func gf) #[] lb) (hFg : F.fn gf) (eg : ∀ args w, (callFunc gf args).run P w = .ok (.enter gf args) w)
    {encs : α → Array Value} {own : Nat → Prop} {S Sp : List α → Prop} {N : Nat} {w0 : World} (hseq : SeqSep F (n - 1) P gf lb encs own S Sp N w0) (hb0 : Below w0.heap.size w0 w) (hown : ∀ k, own k → k < w.heap.size) (hps : ∀ x, (encs x).size = ps.size)
    (I : List α → World → (Nat → Prop) → Prop) (Ix : Code → List α → World → (Nat → Prop) → Prop) (fp0 : Nat → Prop) (hI : Lasts w.heap.size I) (hIx : ∀ c, Lasts w.heap.size (Ix c)) (hfp : ∀ pre V fp, I pre V fp → ∀ k, fp k → k < V.heap.size ∧ ¬ own k) (h0 : I [] w fp0) (act : α → Act)
    (hassign : ∀ (l : Nat) (x : α) (W : World) (K : Act → World → Prop), K (act x) W →
      assign.wpIn (F.inRound l) (n - 1 - 1) P (Exit.then K (fun _ _ _ => False)) { tmps := (ps.zip (encs x)).foldl (fun t (p, v) => t.setIfInBounds p v) a.tmps, defers := [] } W)
    (hbody : ∀ (l : Nat) (pre : List α) (x : α) (W : World) (fp : Nat → Prop), I pre W fp → pre.length < N → body.wpIn (F.inRound l) (n - 1 - 1) P (sepPost fp I Ix (pre ++ [x]) W) (act x) W)
    (hdone : ∀ (D : Nat) (xs : List α) (W : World) (fp : Nat → Prop), w.heap.size ≤ D → S xs → I xs W fp → W.heap[D]? = some (.deferred (some [])) → ¬ fp D → Q .normal { a with defers := { target := .collected D, args := #[] } :: a.defers } W)
    (hstop : ∀ (D : Nat) (c : Code) (pre : List α) (W : World) (fp : Nat → Prop), w.heap.size ≤ D → Sp pre → Ix c pre W fp → W.heap[D]? = some (.deferred (some [])) → ¬ fp D → c.wpIn F n P Q { a with defers := { target := .collected D, args := #[] } :: a.defers } W) :
    (Code.rangeFunc g ps assign body).wpIn F n P Q a w := by
  refine wpIn_rangeFunc fun fn hfn => ?_
  rw [hro]
  obtain ⟨D, eD⟩ : ∃ D, D = w.heap.size := ⟨_, rfl⟩
  obtain ⟨R, eR⟩ : ∃ R : LoopState → Option Code → Loop, R = fun st pe => { state := st, pending := pe, fn, tmps := a.tmps, params := ps, assign, body, defers := D } := ⟨_, rfl⟩
  obtain ⟨X, eX⟩ : ∃ X, X = (w.alloc (.deferred (some []))).alloc (.loop (R .ready none)) := ⟨_, rfl⟩
  have sX : X.heap.size = D + 2 := by rw [eX, eD, World.size_alloc, World.size_alloc]
  have lX : X.heap[D + 1]? = some (.loop (R .ready none)) := by
    have := World.alloc_heap_new (w.alloc (.deferred (some []))) (.loop (R .ready none))
    rw [World.size_alloc, ← eD, ← eX] at this
    exact this
  have dX : X.heap[D]? = some (.deferred (some [])) := by
    rw [eX, Below.heap_alloc _ _ _ (by rw [World.size_alloc]; omega), eD]
    exact World.alloc_heap_new w _
  have gX : w.grownBy X none := by
    rw [eX]
    exact gr_trans (World.grownBy_alloc _ _ _) (World.grownBy_alloc _ _ _)
  have iX : I [] X fp0 := hI _ _ _ _ h0 ⟨gX.1, gX.2, gX.3, gX.4, fun k hk _ => gX.5 k hk (by simp)⟩ fun k hk => gX.5 k (hfp _ _ _ h0 k hk).1 (by simp)
  have bX : Below w0.heap.size w0 X := by
    rw [eX]
    exact hb0.trans ((((Below.refl _ w).alloc (Nat.le_refl _) _).alloc (by rw [World.size_alloc]; omega) _).mono hb0.size)
  have f0 : ¬ fp0 D ∧ ¬ fp0 (D + 1) := ⟨fun h => by have := (hfp _ _ _ h0 _ h).1; omega, fun h => by have := (hfp _ _ _ h0 _ h).1; omega⟩
  refine ⟨D + 1, [{ target := .collected D, args := #[] }], X, { target := .fn (.func gf) lb, args := #[.func (.yield (D + 1)) #[] #[]] }, X, gf, #[.func (.yield (D + 1)) #[] #[]] ++ lb, X, ?enter, ?res, ?leads, ?inv, fun _ => h1, ?call⟩
  case enter =>
    rw [eX, eR, eD]
    exact run_enterLoop_outer _ _ _ _ _
  case res =>
    simp only [resolve, hg]
    simp [go_sem]
  case leads =>
    intro f' hf'
    simp [Target.leads] at hf'
    subst hf'
    exact hFg
  case inv => simp [invoke, go_sem, eg]
  case call =>
    have grow : ∀ {A B : World}, Gr (fun k => X.heap.size ≤ k) A B → Gr (fun k => w.heap.size ≤ k) A B := fun h => h.mono fun k hk => by omega
    have oJ : Lasts X.heap.size (fun pre W fpx => ∃ fp, fpx = (fun k => fp k ∨ k = D ∨ k = D + 1) ∧ I pre W fp ∧ ¬ fp D ∧ ¬ fp (D + 1) ∧ W.heap[D + 1]? = some (.loop (R .ready none)) ∧ W.heap[D]? = some (.deferred (some []))) := by
      rintro pre A B fpx ⟨fp, rfl, h2, h3, h4, h5, h6⟩ hg' hs
      exact ⟨fp, rfl, hI _ _ _ _ h2 (grow hg') (fun k hk => hs k (.inl hk)), h3, h4, (hs _ (.inr (.inr rfl))).trans h5, (hs _ (.inr (.inl rfl))).trans h6⟩
    have oK : Lasts X.heap.size (fun pre W fpx => ∃ fp c, fpx = (fun k => fp k ∨ k = D ∨ k = D + 1) ∧ Ix c pre W fp ∧ ¬ fp D ∧ ¬ fp (D + 1) ∧ W.heap[D + 1]? = some (.loop (R .done (some c))) ∧ W.heap[D]? = some (.deferred (some []))) := by
      rintro pre A B fpx ⟨fp, c, rfl, h2, h3, h4, h5, h6⟩ hg' hs
      exact ⟨fp, c, rfl, hIx c _ _ _ _ h2 (grow hg') (fun k hk => hs k (.inl hk)), h3, h4, (hs _ (.inr (.inr rfl))).trans h5, (hs _ (.inr (.inl rfl))).trans h6⟩
    refine (hseq (D + 1) _ _ _ X bX oJ oK ?foot ?round ⟨fp0, rfl, iX, f0.1, f0.2, lX, dX⟩).mono ?behind
    case foot =>
      rintro pre V fpx ⟨fp, rfl, h2, -, -, h5, h6⟩ k (hk | rfl | rfl)
      · exact hfp _ _ _ h2 k hk
      · exact ⟨(Array.getElem?_eq_some_iff.1 h6).1, fun ho => by have := hown _ ho; omega⟩
      · exact ⟨(Array.getElem?_eq_some_iff.1 h5).1, fun ho => by have := hown _ ho; omega⟩
    case round =>
      rintro pre x W fpx ⟨fp, rfl, hi, nD, nE, hl, hd⟩ hlen
      have hlt : D + 1 < W.heap.size := (Array.getElem?_eq_some_iff.1 hl).1
      have hy := run_yield (P := P) (args := encs x) hl (by rw [eR]; exact hps x)
      rw [eR] at hy
      refine ⟨fn, _, assign, body, hy, roundIn_of_wpIn hfn (hassign _ x W _ ⟨_, run_beginRound hl (by rw [eR]), ?_⟩)⟩
      obtain ⟨V, eV⟩ : ∃ V, V = W.putObj (D + 1) (.loop { R .ready none with state := .busy }) := ⟨_, rfl⟩
      have lV : V.heap[D + 1]? = some (.loop { R .ready none with state := .busy }) := by rw [eV]; exact World.putObj_heap_same hlt
      have dV : V.heap[D]? = some (.deferred (some [])) := by rw [eV]; exact (World.putObj_heap_other (by omega)).trans hd
      have gV : Gr (fun k => k = D + 1) W V := by rw [eV]; exact gr_put _ rfl
      have iV : I pre V fp := hI _ _ _ _ hi (gV.mono fun k hk => by omega) fun k hk => by rw [eV]; exact World.putObj_heap_other fun e => nE (by rw [← e]; exact hk)
      have sV : V.heap.size = W.heap.size := by rw [eV]; simp [World.putObj]
      rw [← eV]
      refine wpIn_mono (hbody _ pre x V fp iV hlen) ?_
      have tail : ∀ (jump : Option Code) (Z : World) (fp' : Nat → Prop), Gr fp V Z → Grew V fp fp' → ∃ Y, (Instr.endRound (D + 1) jump).run P Z = .ok (.bool jump.isNone) Y ∧ Gr (fun k => fp k ∨ k = D ∨ k = D + 1) W Y ∧ Grew W (fun k => fp k ∨ k = D ∨ k = D + 1) (fun k => fp' k ∨ k = D ∨ k = D + 1) ∧ ¬ fp' D ∧ ¬ fp' (D + 1) ∧ Y.heap[D + 1]? = some (.loop (R (if jump.isNone then .ready else .done) jump)) ∧ Y.heap[D]? = some (.deferred (some [])) ∧
          (∀ {J : List α → World → (Nat → Prop) → Prop} {q : List α}, Lasts w.heap.size J → J q Z fp' → J q Y fp') := fun jump Z fp' hZ hG => by
        have lZ := (hZ.block (D + 1) (by omega) nE).trans lV
        have dZ := (hZ.block D (by omega) nD).trans dV
        have zlt : D + 1 < Z.heap.size := (Array.getElem?_eq_some_iff.1 lZ).1
        have nD' : ¬ fp' D := fun h => (hG D h).elim nD fun h => by omega
        have nE' : ¬ fp' (D + 1) := fun h => (hG (D + 1) h).elim nE fun h => by omega
        have hr := run_endRound (P := P) jump lZ
        rw [eR] at hr
        refine ⟨Z.putObj (D + 1) (.loop (R (if jump.isNone then .ready else .done) jump)), ?_, ?_, ?_, nD', nE', World.putObj_heap_same zlt, (World.putObj_heap_other (by omega)).trans dZ, fun hJ hj => hJ _ _ _ _ hj (gr_put _ (show w.heap.size ≤ D + 1 by omega)) fun k hk => World.putObj_heap_other fun e => nE' (by rw [← e]; exact hk)⟩
        · rw [eR]
          exact hr
        · exact ((gV.mono fun k hk => .inr (.inr hk)).trans (hZ.mono fun k hk => .inl hk)).trans (gr_put _ (.inr (.inr rfl)))
        · rintro k (hk | hk)
          · rcases hG k hk with h | h
            · exact .inl (.inl h)
            · exact .inr (by omega)
          · exact .inl (.inr hk)
      rintro e b Z hp
      cases e with
      | normal =>
        obtain ⟨fp', p1, p2, p3⟩ := hp
        obtain ⟨Y, hr, gY, gr, n1, n2, lY, dY, keep⟩ := tail none Z fp' p1 p2
        exact ⟨_, _, hr, _, gY, gr, .inl ⟨rfl, fp', rfl, keep hI p3, n1, n2, lY, dY⟩⟩
      | ret =>
        obtain ⟨fp', p1, p2, p3⟩ := hp
        obtain ⟨Y, hr, gY, gr, n1, n2, lY, dY, keep⟩ := tail (some .ret) Z fp' p1 p2
        exact ⟨_, _, hr, _, gY, gr, .inr ⟨rfl, fp', .ret, rfl, keep (hIx _) p3, n1, n2, lY, dY⟩⟩
      | exit id =>
        obtain ⟨fp', p1, p2, p3⟩ := hp
        obtain ⟨Y, hr, gY, gr, n1, n2, lY, dY, keep⟩ := tail (some (.exit id)) Z fp' p1 p2
        exact ⟨_, _, hr, _, gY, gr, .inr ⟨rfl, fp', .exit id, rfl, keep (hIx _) p3, n1, n2, lY, dY⟩⟩
      | goto t =>
        obtain ⟨fp', p1, p2, p3⟩ := hp
        obtain ⟨Y, hr, gY, gr, n1, n2, lY, dY, keep⟩ := tail (some (.goto t)) Z fp' p1 p2
        exact ⟨_, _, hr, _, gY, gr, .inr ⟨rfl, fp', .goto t, rfl, keep (hIx _) p3, n1, n2, lY, dY⟩⟩
      | panic ch => exact hp.elim
      | outgrown => exact hp.elim
    case behind =>
      rintro e W2 ⟨⟨v, rfl⟩, ⟨xs, fpx, hS, fp, rfl, hi, nD, nE, hl, hd⟩ | ⟨pre, fpx, hSp, fp, c, rfl, hi, nD, nE, hl, hd⟩⟩
      · have hr := run_endLoop (P := P) hl (by rw [eR]; simp)
        rw [eR] at hr
        exact ⟨none, _, hr, hdone D xs _ fp (by omega) hS (hI _ _ _ _ hi (gr_put _ (show w.heap.size ≤ D + 1 by omega)) fun k hk => World.putObj_heap_other fun e => nE (by rw [← e]; exact hk)) ((World.putObj_heap_other (by omega)).trans hd) nD⟩
      · have hr := run_endLoop (P := P) hl (by rw [eR]; simp)
        rw [eR] at hr
        exact ⟨some c, _, hr, hstop D c pre _ fp (by omega) hSp (hIx c _ _ _ _ hi (gr_put _ (show w.heap.size ≤ D + 1 by omega)) fun k hk => World.putObj_heap_other fun e => nE (by rw [← e]; exact hk)) ((World.putObj_heap_other (by omega)).trans hd) nD⟩
end Go.Proofs.Ytncblaofgdcfmaa
