/- A range over a function whose rounds lay what is told in a block of its own: as RangeGive. Conditions: none. A shard's items in a slice, at most so many: what the statements' own 'all' answers. Conditions: the contracts of package shard; at most 900 stores; from 1 to 1000 items. -/
import Derived.Test.YtckjjfkfapfdaaaGreatG01Joined
import Derived.Test.YtckjjfkfapfdaaaGreatG35Joined
import Derived.Test.YtckjjfkfapfdaaaGreatG33Joined
namespace Go.Proofs.YtckjjfkfapfdaaaGreat
open Go.RowKit Go.Shelf

theorem range_give_box {F : Fence} {n : Nat} {P : Program} {α : Type} {g : Operand} {ps : Array Tmp} {assign body : Code} {Q : Exit → Act → World → Prop} {a : Act} {w : World}
    (hro : F.round = none) (h1 : 1 ≤ n) {gf : Nat} {lb : Array Value} (hg : a.eval g = .func (.func gf) #[] lb) (hFg : F.fn gf) (eg : ∀ args w, (callFunc gf args).run P w = .ok (.enter gf args) w)
    {encs : α → Array Value} {give : α → Part} {own : Nat → Prop} {S Sp : List α → Prop} {w0 : World} (hseq : SeqGive F (n - 1) P gf lb encs give own S Sp w0) (hb0 : Below w0.heap.size w0 w) (hown : ∀ k, own k → k < w.heap.size) (hps : ∀ x, (encs x).size = ps.size)
    (I : List α → World → (Nat → Prop) → Prop) (Ix : Code → List α → World → (Nat → Prop) → Prop) (fp0 : Nat → Prop) (hI : Lasts w.heap.size I) (hIx : ∀ c, Lasts w.heap.size (Ix c)) (hfp : ∀ pre V fp, I pre V fp → ∀ k, fp k → k < V.heap.size ∧ ¬ own k) (h0 : I [] w fp0) (ob : α → Obj) (act : α → Nat → Act)
    (hassign : ∀ (l : Nat) (x : α) (W : World) (K : Act → World → Prop), K (act x W.heap.size) (W.alloc (ob x)) →
      assign.wpIn (F.inRound l) (n - 1 - 1) P (Exit.then K (fun _ _ _ => False)) { tmps := (ps.zip (encs x)).foldl (fun t (p, v) => t.setIfInBounds p v) a.tmps, defers := [] } W)
    (hbody : ∀ (l : Nat) (pre : List α) (x : α) (W : World) (fp : Nat → Prop) (k0 : Nat), W.heap[k0]? = some (ob x) → w.heap.size ≤ k0 → ¬ fp k0 → ¬ (give x).own k0 → I pre W fp → Sp (pre ++ [x]) → (give x).q W → (∀ k, (give x).own k → w.heap.size ≤ k ∧ k < W.heap.size ∧ ¬ fp k) → body.wpIn (F.inRound l) (n - 1 - 1) P (givePost fp (give x).own I Ix (pre ++ [x]) W) (act x k0) W)
    (hdone : ∀ (D : Nat) (xs : List α) (W : World) (fp : Nat → Prop), w.heap.size ≤ D → S xs → I xs W fp → W.heap[D]? = some (.deferred (some [])) → ¬ fp D → Q .normal { a with defers := { target := .collected D, args := #[] } :: a.defers } W)
    (hstop : ∀ (D : Nat) (c : Code) (pre : List α) (W : World) (fp : Nat → Prop), w.heap.size ≤ D → Sp pre → Ix c pre W fp → W.heap[D]? = some (.deferred (some [])) → ¬ fp D → c.wpIn F n P Q { a with defers := { target := .collected D, args := #[] } :: a.defers } W) :
    (Code.rangeFunc g ps assign body).wpIn F n P Q a w := by
  refine wpIn_rangeFunc fun fn hfn => ?_
  rw [hro]
  obtain ⟨D, eD⟩ : ∃ D, D = w.heap.size := ⟨_, rfl⟩
  obtain ⟨R, eR⟩ : ∃ R : LoopState → Option Code → Loop, R = fun st pe => { state := st, pending := pe, fn, tmps := a.tmps, params := ps, assign, body, defers := D } := ⟨_, rfl⟩
  obtain ⟨X, eX⟩ : ∃ X, X = (w.alloc (.deferred (some []))).alloc (.loop (R .ready none)) := ⟨_, rfl⟩
  have sX : X.heap.size = D + 2 := by rw [eX, eD, World.size_alloc, World.size_alloc]
  have lX : X.heap[D + 1]? = some (.loop (R .ready none)) := by
    have := World.alloc_heap_new (w.alloc (.deferred (some []))) (.loop (R .ready none))
    rw [World.size_alloc, ← eD, ← eX] at this
    exact this
  have dX : X.heap[D]? = some (.deferred (some [])) := by
    rw [eX, Below.heap_alloc _ _ _ (by rw [World.size_alloc]; omega), eD]
    exact World.alloc_heap_new w _
  have gX : w.grownBy X none := by
    rw [eX]
    exact gr_trans (World.grownBy_alloc _ _ _) (World.grownBy_alloc _ _ _)
  have iX : I [] X fp0 := hI _ _ _ _ h0 ⟨gX.1, gX.2, gX.3, gX.4, fun k hk _ => gX.5 k hk (by simp)⟩ fun k hk => gX.5 k (hfp _ _ _ h0 k hk).1 (by simp)
  have bX : Below w0.heap.size w0 X := by
    rw [eX]
    exact hb0.trans ((((Below.refl _ w).alloc (Nat.le_refl _) _).alloc (by rw [World.size_alloc]; omega) _).mono hb0.size)
  have f0 : ¬ fp0 D ∧ ¬ fp0 (D + 1) := ⟨fun h => by have := (hfp _ _ _ h0 _ h).1; omega, fun h => by have := (hfp _ _ _ h0 _ h).1; omega⟩
  refine ⟨D + 1, [{ target := .collected D, args := #[] }], X, { target := .fn (.func gf) lb, args := #[.func (.yield (D + 1)) #[] #[]] }, X, gf, #[.func (.yield (D + 1)) #[] #[]] ++ lb, X, ?enter, ?res, ?leads, ?inv, fun _ => h1, ?call⟩
  case enter =>
    rw [eX, eR, eD]
    exact run_enterLoop_outer _ _ _ _ _
  case res =>
    simp only [resolve, hg]
    simp [go_sem]
  case leads =>
    intro f' hf'
    simp [Target.leads] at hf'
    subst hf'
    exact hFg
  case inv => simp [invoke, go_sem, eg]
  case call =>
    have grow : ∀ {A B : World}, Gr (fun k => X.heap.size ≤ k) A B → Gr (fun k => w.heap.size ≤ k) A B := fun h => h.mono fun k hk => by omega
    have oJ : Lasts X.heap.size (fun pre W fpx => ∃ fp, fpx = (fun k => fp k ∨ k = D ∨ k = D + 1) ∧ I pre W fp ∧ ¬ fp D ∧ ¬ fp (D + 1) ∧ W.heap[D + 1]? = some (.loop (R .ready none)) ∧ W.heap[D]? = some (.deferred (some []))) := by
      rintro pre A B fpx ⟨fp, rfl, h2, h3, h4, h5, h6⟩ hg' hs
      exact ⟨fp, rfl, hI _ _ _ _ h2 (grow hg') (fun k hk => hs k (.inl hk)), h3, h4, (hs _ (.inr (.inr rfl))).trans h5, (hs _ (.inr (.inl rfl))).trans h6⟩
    have oK : Lasts X.heap.size (fun pre W fpx => ∃ fp c, fpx = (fun k => fp k ∨ k = D ∨ k = D + 1) ∧ Ix c pre W fp ∧ ¬ fp D ∧ ¬ fp (D + 1) ∧ W.heap[D + 1]? = some (.loop (R .done (some c))) ∧ W.heap[D]? = some (.deferred (some []))) := by
      rintro pre A B fpx ⟨fp, c, rfl, h2, h3, h4, h5, h6⟩ hg' hs
      exact ⟨fp, c, rfl, hIx c _ _ _ _ h2 (grow hg') (fun k hk => hs k (.inl hk)), h3, h4, (hs _ (.inr (.inr rfl))).trans h5, (hs _ (.inr (.inl rfl))).trans h6⟩
    refine (hseq (D + 1) _ _ _ X bX oJ oK ?foot ?round ⟨fp0, rfl, iX, f0.1, f0.2, lX, dX⟩).mono ?behind
    case foot =>
      rintro pre V fpx ⟨fp, rfl, h2, -, -, h5, h6⟩ k (hk | rfl | rfl)
      · exact hfp _ _ _ h2 k hk
      · exact ⟨(Array.getElem?_eq_some_iff.1 h6).1, fun ho => by have := hown _ ho; omega⟩
      · exact ⟨(Array.getElem?_eq_some_iff.1 h5).1, fun ho => by have := hown _ ho; omega⟩
    case round =>
      rintro pre x W fpx ⟨fp, rfl, hi, nD, nE, hl, hd⟩ hsp hgq hgo
      have hlt : D + 1 < W.heap.size := (Array.getElem?_eq_some_iff.1 hl).1
      have hy := run_yield (P := P) (args := encs x) hl (by rw [eR]; exact hps x)
      rw [eR] at hy
      have hl2 : (W.alloc (ob x)).heap[D + 1]? = some (.loop (R .ready none)) := (Below.heap_alloc _ _ _ hlt).trans hl
      refine ⟨fn, _, assign, body, hy, roundIn_of_wpIn hfn (hassign _ x W _ ⟨_, run_beginRound hl2 (by rw [eR]), ?_⟩)⟩
      obtain ⟨V, eV⟩ : ∃ V, V = (W.alloc (ob x)).putObj (D + 1) (.loop { R .ready none with state := .busy }) := ⟨_, rfl⟩
      have sV : V.heap.size = W.heap.size + 1 := by rw [eV]; simp [World.putObj]
      have oth : ∀ k, k < W.heap.size → k ≠ D + 1 → V.heap[k]? = W.heap[k]? := fun k h1 h2 => by rw [eV]; exact (World.putObj_heap_other h2).trans (Below.heap_alloc _ _ _ h1)
      have lV : V.heap[D + 1]? = some (.loop { R .ready none with state := .busy }) := by rw [eV]; exact World.putObj_heap_same (by rw [World.size_alloc]; omega)
      have dV : V.heap[D]? = some (.deferred (some [])) := (oth D (by omega) (by omega)).trans hd
      have kV : V.heap[W.heap.size]? = some (ob x) := by rw [eV]; exact (World.putObj_heap_other (by omega)).trans (World.alloc_heap_new W _)
      have gA := World.grownBy_alloc W (ob x) none
      have gV : Gr (fun k => k = D + 1) W V := by rw [eV]; exact Gr.trans ⟨gA.1, gA.2, gA.3, gA.4, fun k hk _ => gA.5 k hk (by simp)⟩ (gr_put _ rfl)
      have iV : I pre V fp := hI _ _ _ _ hi (gV.mono fun k hk => by omega) fun k hk => oth k (hfp _ _ _ hi k hk).1 fun e => nE (by rw [← e]; exact hk)
      have gnD : ∀ k, (give x).own k → k ≠ D ∧ k ≠ D + 1 := fun k hk => by have := (hgo k hk).1; omega
      have gq : (give x).q V := (give x).on W V hgq fun k hk => oth k (hgo k hk).2.1 (gnD k hk).2
      rw [← eV]
      refine wpIn_mono (hbody _ pre x V fp W.heap.size kV (by omega) (fun hf => Nat.lt_irrefl _ (hfp _ _ _ hi _ hf).1) (fun hg => Nat.lt_irrefl _ (hgo _ hg).2.1) iV hsp gq fun k hk => ⟨by have := (hgo k hk).1; omega, by rw [sV]; have := (hgo k hk).2.1; omega, fun hf => (hgo k hk).2.2 (.inl hf)⟩) ?_
      have tail : ∀ (jump : Option Code) (Z : World) (fp' : Nat → Prop), Gr fp V Z → Grew V (fun k => fp k ∨ (give x).own k) fp' → ∃ Y, (Instr.endRound (D + 1) jump).run P Z = .ok (.bool jump.isNone) Y ∧ Gr (fun k => fp k ∨ k = D ∨ k = D + 1) W Y ∧ Grew W (fun k => (fp k ∨ k = D ∨ k = D + 1) ∨ (give x).own k) (fun k => fp' k ∨ k = D ∨ k = D + 1) ∧ ¬ fp' D ∧ ¬ fp' (D + 1) ∧ Y.heap[D + 1]? = some (.loop (R (if jump.isNone then .ready else .done) jump)) ∧ Y.heap[D]? = some (.deferred (some [])) ∧
          (∀ {J : List α → World → (Nat → Prop) → Prop} {q : List α}, Lasts w.heap.size J → J q Z fp' → J q Y fp') := fun jump Z fp' hZ hG => by
        have lZ := (hZ.block (D + 1) (by omega) nE).trans lV
        have dZ := (hZ.block D (by omega) nD).trans dV
        have zlt : D + 1 < Z.heap.size := (Array.getElem?_eq_some_iff.1 lZ).1
        have nD' : ¬ fp' D := fun h => (hG D h).elim (fun h => h.elim nD fun h => (gnD D h).1 rfl) fun h => by omega
        have nE' : ¬ fp' (D + 1) := fun h => (hG (D + 1) h).elim (fun h => h.elim nE fun h => (gnD (D + 1) h).2 rfl) fun h => by omega
        have hr := run_endRound (P := P) jump lZ
        rw [eR] at hr
        refine ⟨Z.putObj (D + 1) (.loop (R (if jump.isNone then .ready else .done) jump)), ?_, ?_, ?_, nD', nE', World.putObj_heap_same zlt, (World.putObj_heap_other (by omega)).trans dZ, fun hJ hj => hJ _ _ _ _ hj (gr_put _ (show w.heap.size ≤ D + 1 by omega)) fun k hk => World.putObj_heap_other fun e => nE' (by rw [← e]; exact hk)⟩
        · rw [eR]
          exact hr
        · exact ((gV.mono fun k hk => .inr (.inr hk)).trans (hZ.mono fun k hk => .inl hk)).trans (gr_put _ (.inr (.inr rfl)))
        · rintro k (hk | hk)
          · rcases hG k hk with (h | h) | h
            · exact .inl (.inl (.inl h))
            · exact .inl (.inr h)
            · exact .inr (by omega)
          · exact .inl (.inl (.inr hk))
      rintro e b Z hp
      cases e with
      | normal =>
        obtain ⟨fp', p1, p2, p3⟩ := hp
        obtain ⟨Y, hr, gY, gr, n1, n2, lY, dY, keep⟩ := tail none Z fp' p1 p2
        exact ⟨_, _, hr, _, gY, gr, .inl ⟨rfl, fp', rfl, keep hI p3, n1, n2, lY, dY⟩⟩
      | ret =>
        obtain ⟨fp', p1, p2, p3⟩ := hp
        obtain ⟨Y, hr, gY, gr, n1, n2, lY, dY, keep⟩ := tail (some .ret) Z fp' p1 p2
        exact ⟨_, _, hr, _, gY, gr, .inr ⟨rfl, fp', .ret, rfl, keep (hIx _) p3, n1, n2, lY, dY⟩⟩
      | exit id =>
        obtain ⟨fp', p1, p2, p3⟩ := hp
        obtain ⟨Y, hr, gY, gr, n1, n2, lY, dY, keep⟩ := tail (some (.exit id)) Z fp' p1 p2
        exact ⟨_, _, hr, _, gY, gr, .inr ⟨rfl, fp', .exit id, rfl, keep (hIx _) p3, n1, n2, lY, dY⟩⟩
      | goto t =>
        obtain ⟨fp', p1, p2, p3⟩ := hp
        obtain ⟨Y, hr, gY, gr, n1, n2, lY, dY, keep⟩ := tail (some (.goto t)) Z fp' p1 p2
        exact ⟨_, _, hr, _, gY, gr, .inr ⟨rfl, fp', .goto t, rfl, keep (hIx _) p3, n1, n2, lY, dY⟩⟩
      | panic ch => exact hp.elim
      | outgrown => exact hp.elim
    case behind =>
      rintro e W2 ⟨⟨v, rfl⟩, ⟨xs, fpx, hS, fp, rfl, hi, nD, nE, hl, hd⟩ | ⟨pre, fpx, hSp, fp, c, rfl, hi, nD, nE, hl, hd⟩⟩
      · have hr := run_endLoop (P := P) hl (by rw [eR]; simp)
        rw [eR] at hr
        exact ⟨none, _, hr, hdone D xs _ fp (by omega) hS (hI _ _ _ _ hi (gr_put _ (show w.heap.size ≤ D + 1 by omega)) fun k hk => World.putObj_heap_other fun e => nE (by rw [← e]; exact hk)) ((World.putObj_heap_other (by omega)).trans hd) nD⟩
      · have hr := run_endLoop (P := P) hl (by rw [eR]; simp)
        rw [eR] at hr
        exact ⟨some c, _, hr, hstop D c pre _ fp (by omega) hSp (hIx c _ _ _ _ hi (gr_put _ (show w.heap.size ≤ D + 1 by omega)) fun k hk => World.putObj_heap_other fun e => nE (by rw [← e]; exact hk)) ((World.putObj_heap_other (by omega)).trans hd) nD⟩
end Go.Proofs.YtckjjfkfapfdaaaGreat

namespace Go.Proofs.YtckjjfkfapfdaaaGreat
open Go.RowKit Go.Shelf
attribute [local go_sem] Oper.semAt_some
variable {Sh : World → Nat → (Nat → Prop) → Nat → Nat → Hs → Prop}

section
variable {F : Fence} {nF : Nat} {P : Program} {ops : Array Oper} {rest : List Oper} {o : Oper} {a : Act} {w : World} {Q : Exit → Act → World → Prop}
theorem wpListIn_store_row (hgd : o.guard = none) (ty : TypeId) (x y : Operand) (ho : o.op = .store ty x y) (g : Nat) (cells : Array Value) (hx : a.eval x = .pointer (some ⟨g, 0, none⟩)) (hy : a.eval y = .agg cells)
    (t : TypeId) (old : Array Value) (hg : w.heap[g]? = some (.cells old t (0, 0))) (hi : (P.info? ty).map (·.size) = some cells.size) (hold : old.size = cells.size) (h1 : cells.all (·.oneCell') = true)
    (h : wpListIn F nF P ops Q rest (a.put o.dst undef) (w.setRow g cells)) : wpListIn F nF P ops Q (o :: rest) a w := by
  refine wpListIn_plain hgd fun K hK => ?_
  unfold Oper.wpIn
  refine ⟨by simp [Oper.about, ho], ?_⟩
  rw [Oper.semAt_plain F _ _ (by rw [ho]; intro c hc'; cases hc')]
  simp [execOp, ho, hx, hy, Instr.storeAt, Instr.sureAddr, run_storeVar_row w g t ty old cells hg hi hold h1, Result.andThen]
  exact hK _ _ h
theorem wpListIn_load_row (hgd : o.guard = none) (ty : TypeId) (x : Operand) (ho : o.op = .load ty x) (g : Nat) (hx : a.eval x = .pointer (some ⟨g, 0, none⟩)) (t : TypeId) (cs : Array Value) (fr : Nat × Nat) (d : TypeDesc) (hg : w.heap[g]? = some (.cells cs t fr))
    (hu : P.underlying ty = some d) (hd : (match d with | .struct _ | .array _ _ => true | _ => false) = true) (hi : (P.info? ty).map (·.size) = some cs.size)
    (h : wpListIn F nF P ops Q rest (a.put o.dst (.agg cs)) w) : wpListIn F nF P ops Q (o :: rest) a w := by
  refine wpListIn_plain hgd fun K hK => ?_
  unfold Oper.wpIn
  refine ⟨by simp [Oper.about, ho], ?_⟩
  rw [Oper.semAt_plain F _ _ (by rw [ho]; intro c hc'; cases hc')]
  have hl := run_loadVar_row (P := P) w g t ty cs fr d hg hu hd hi
  simp [execOp, ho, hx, Instr.loadAt, Instr.sureAddr, hl, Result.andThen]
  exact hK _ _ h
end
theorem setRow_alloc (W : World) (old cs : Array Value) (t : TypeId) : (W.alloc (.cells old t)).setRow W.heap.size cs = W.alloc (.cells cs t) := by
  have e : (W.heap.push (.cells old t)).modify W.heap.size (fun | .cells _ elem frozen => .cells cs elem frozen | o => o) = W.heap.push (.cells cs t) := by
    apply Array.ext
    · simp
    · intro i h1 h2
      rw [Array.getElem_modify]
      by_cases hi : W.heap.size = i
      · subst hi
        simp
      · have h3 : i < W.heap.size := by simp at h2; omega
        simp [hi, Array.getElem_push_lt h3]
  exact congrArg (fun h => ({ W with heap := h } : World)) e
/-- The bytes of what was told. -/
def talesP (xs : List Told) : Part where
  own := fun k => ∃ x ∈ xs, (giveP x).own k
  q := fun w => ∀ x ∈ xs, (giveP x).q w
  on := fun w1 w2 h hs x hx => (giveP x).on w1 w2 (h x hx) fun k hk => hs k ⟨x, hx, hk⟩
def itemsP (v : Value) (xs : List Told) : Part := (rowP 0 34 10 v xs.length (itsV (xs.map Told.it))).and (talesP xs)
theorem row_base {w : World} {n0 n1 n size : Nat} {e : TypeId} {v : Value} {xs : List Value} (h : w.ownsRow n0 e size v n xs) (hn : n1 ≤ n0) : w.ownsRow n1 e size v n xs := by
  obtain ⟨h1, h2 | ⟨g, cap, cs, e1, h3, h4⟩⟩ := h
  · exact ⟨h1, .inl h2⟩
  · exact ⟨h1, .inr ⟨g, cap, cs, e1, Nat.le_trans hn h3, h4⟩⟩
/-- Where the loop of 'all' stands. -/
def toldG (w : World) (m : Nat) (v : Value) (pre : List Told) : Part := (rowP w.heap.size 34 10 v pre.length (itsV (pre.map Told.it))).and ((boxP (w.heap.size + 1) (.cells #[v] 40)).and ((boxP w.heap.size (.cells #[.int .i64 (m : Int)] 3)).and ((talesP pre).and Part.emp)))
def ToldI (w : World) (m sz : Nat) (own2 : Nat → Prop) (C : Nat → Prop) (pre : List Told) (W : World) (fp : Nat → Prop) : Prop := ∃ v, fp = (toldG w m v pre).own ∧ Law w W (toldG w m v pre) ∧ (∀ k, own2 k → ¬ fp k) ∧ sz ≤ W.heap.size ∧ C pre.length
theorem ToldI.lasts {w : World} {m sz B : Nat} {own2 : Nat → Prop} {C : Nat → Prop} (hB : w.heap.size ≤ B) : Lasts B (ToldI w m sz own2 C) := by
  rintro pre V V' fp ⟨v, rfl, H, h2, h3, h4⟩ hg hs
  exact ⟨v, rfl, ⟨Gr.below H.below hg (fun k hk => Nat.le_trans hB hk), (toldG w m v pre).on V V' H.q hs, fun k hk => ⟨(H.lt k hk).1, Nat.lt_of_lt_of_le (H.lt k hk).2 hg.size⟩⟩, h2, Nat.le_trans h3 hg.size, h4⟩
theorem ToldI.foot {w : World} {m sz : Nat} {own2 : Nat → Prop} {C : Nat → Prop} : ∀ pre V fp, ToldI w m sz own2 C pre V fp → ∀ k, fp k → k < V.heap.size ∧ ¬ own2 k := by
  rintro pre V fp ⟨v, rfl, H, h2, h3, _⟩ k hk
  exact ⟨(H.lt k hk).2, fun h => h2 k h hk⟩
theorem tales_add {pre : List Told} {x : Told} (k : Nat) : (talesP (pre ++ [x])).own k ↔ (talesP pre).own k ∨ (giveP x).own k := by
  constructor
  · rintro ⟨y, hy, hk⟩
    rcases List.mem_append.1 hy with hy | hy
    · exact .inl ⟨y, hy, hk⟩
    · obtain rfl : y = x := by simpa using hy
      exact .inr hk
  · rintro (⟨y, hy, hk⟩ | hk)
    · exact ⟨y, List.mem_append_left _ hy, hk⟩
    · exact ⟨x, by simp, hk⟩
theorem told_next {w W w8 : World} {m sz : Nat} {own2 : Nat → Prop} {C : Nat → Prop} {pre : List Told} {x : Told} {v v' : Value} {tmp : Obj} (H : Law w W (toldG w m v pre)) (h2 : ∀ k, own2 k → ¬ (toldG w m v pre).own k) (h3 : sz ≤ W.heap.size) (ho : ∀ k, own2 k → k < sz)
    (hgq : (giveP x).q W) (hgo : ∀ k, (giveP x).own k → sz ≤ k ∧ k < W.heap.size ∧ ¬ (toldG w m v pre).own k) (hsz : w.heap.size ≤ sz)
    (hown : w8.ownsRow w.heap.size 34 10 v' (pre.length + 1) (itsV (pre.map Told.it) ++ (itC x.it).toList)) (hgrow : (W.alloc tmp).grownBy w8 v.ownBlock) (hat : v'.ownBlock = v.ownBlock ∨ v'.ownBlock = some (W.alloc tmp).heap.size) :
    w8.cell? ⟨w.heap.size + 1, 0, none⟩ = some v ∧ w8.frozen? ⟨w.heap.size + 1, 0, none⟩ = false ∧ (w8.setCell ⟨w.heap.size + 1, 0, none⟩ v').cell? ⟨w.heap.size + 1, 0, none⟩ = some v' ∧ w8.cell? ⟨w.heap.size, 0, none⟩ = some (.int .i64 (m : Int)) ∧
    ∃ fp', Gr (toldG w m v pre).own W (w8.setCell ⟨w.heap.size + 1, 0, none⟩ v') ∧ Grew W (fun k => (toldG w m v pre).own k ∨ (giveP x).own k) fp' ∧ (C (pre.length + 1) → ToldI w m sz own2 C (pre ++ [x]) (w8.setCell ⟨w.heap.size + 1, 0, none⟩ v') fp') := by
  have HA : Law w W ((giveP x).and (toldG w m v pre)) := ⟨H.below, ⟨hgq, H.q, fun k h1 h2 => (hgo k h1).2.2 h2⟩, fun k hk => hk.elim (fun h => ⟨Nat.le_trans hsz (hgo k h).1, (hgo k h).2.1⟩) (H.lt k)⟩
  have HR := HA.rot.rin
  have H0 : Law w W (Part.emp.and ((rowP w.heap.size 34 10 v pre.length (itsV (pre.map Told.it))).and ((boxP (w.heap.size + 1) (.cells #[v] 40)).and ((giveP x).and ((boxP w.heap.size (.cells #[.int .i64 (m : Int)] 3)).and ((talesP pre).and Part.emp)))))) := ⟨HR.below, ⟨trivial, HR.q, fun _ h => h.elim⟩, fun k hk => hk.elim (fun h => h.elim) (HR.lt k)⟩
  obtain ⟨hb, H1, hG, hGr⟩ := app_store H0 hown hgrow hat
  have e2 : itsV ((pre ++ [x]).map Told.it) = itsV (pre.map Told.it) ++ (itC x.it).toList := by rw [List.map_append, List.map_singleton, itsV_app]
  have e3 : (pre ++ [x]).length = pre.length + 1 := by simp
  have ho' : ∀ k, (toldG w m v' (pre ++ [x])).own k → ((rowP w.heap.size 34 10 v' (pre.length + 1) (itsV (pre.map Told.it) ++ (itC x.it).toList)).and ((boxP (w.heap.size + 1) (.cells #[v'] 40)).and ((giveP x).and ((boxP w.heap.size (.cells #[.int .i64 (m : Int)] 3)).and ((talesP pre).and Part.emp))))).own k := by
    rintro k (hk | hk | hk | hk | hk)
    · exact .inl hk
    · exact .inr (.inl hk)
    · exact .inr (.inr (.inr (.inl hk)))
    · rcases (tales_add k).1 hk with h | h
      · exact .inr (.inr (.inr (.inr (.inl h))))
      · exact .inr (.inr (.inl h))
    · exact hk.elim
  have HL : Law w (w8.setCell ⟨w.heap.size + 1, 0, none⟩ v') (toldG w m v' (pre ++ [x])) := by
    have H2 := H1.right
    refine H2.weak (fun h => ?_) ho'
    obtain ⟨r, ⟨bx, ⟨gv, ⟨bm, ⟨tl, -, -⟩, d3⟩, d2⟩, d1⟩, d0⟩ := h
    unfold toldG
    rw [e2, e3]
    refine ⟨r, ⟨bx, ⟨bm, ⟨?_, trivial, fun _ _ h => h⟩, ?_⟩, ?_⟩, ?_⟩
    · intro y hy
      rcases List.mem_append.1 hy with hy | hy
      · exact tl y hy
      · obtain rfl : y = x := by simpa using hy
        exact gv
    · rintro k hk (h | h)
      · rcases (tales_add k).1 h with h | h
        · exact d3 k hk (.inl h)
        · exact d2 k h (.inl hk)
      · exact h
    · rintro k hk (h | h | h)
      · exact d1 k hk (.inr (.inl h))
      · rcases (tales_add k).1 h with h | h
        · exact d1 k hk (.inr (.inr (.inl h)))
        · exact d1 k hk (.inl h)
      · exact h
    · rintro k hk (h | h | h | h)
      · exact d0 k hk (.inl h)
      · exact d0 k hk (.inr (.inr (.inl h)))
      · rcases (tales_add k).1 h with h | h
        · exact d0 k hk (.inr (.inr (.inr (.inl h))))
        · exact d0 k hk (.inr (.inl h))
      · exact h
  have hins : ∀ k, ((rowP w.heap.size 34 10 v pre.length (itsV (pre.map Told.it))).and ((boxP (w.heap.size + 1) (.cells #[v] 40)).and ((giveP x).and ((boxP w.heap.size (.cells #[.int .i64 (m : Int)] 3)).and ((talesP pre).and Part.emp))))).own k → (toldG w m v pre).own k ∨ (giveP x).own k := by
    rintro k (hk | hk | hk | hk | hk | hk)
    · exact .inl (.inl hk)
    · exact .inl (.inr (.inl hk))
    · exact .inr hk
    · exact .inl (.inr (.inr (.inl hk)))
    · exact .inl (.inr (.inr (.inr (.inl hk))))
    · exact hk.elim
  have bm : (w8.setCell ⟨w.heap.size + 1, 0, none⟩ v').heap[w.heap.size]? = some (.cells #[.int .i64 (m : Int)] 3) := HL.q.2.1.2.1.1
  have bb : (w8.setCell ⟨w.heap.size + 1, 0, none⟩ v').heap[w.heap.size + 1]? = some (.cells #[v'] 40) := HL.q.2.1.1
  have hGG : Gr (toldG w m v pre).own W (w8.setCell ⟨w.heap.size + 1, 0, none⟩ v') := by
    have hWs := (Nat.le_trans (Nat.le_of_eq (by rw [World.size_alloc])) hgrow.size : W.heap.size + 1 ≤ w8.heap.size)
    refine ⟨hG.os, hG.tape, hG.output, hG.size, fun k hk hn => ?_⟩
    by_cases hg : (giveP x).own k
    · have n1 : v.ownBlock ≠ some k := fun e => hn (.inl e)
      have n2 : k ≠ w.heap.size + 1 := fun e => hn (.inr (.inl e))
      exact (heap_setCell_other _ _ _ _ n2).trans ((hgrow.block k (by rw [World.size_alloc]; omega) (fun e => n1 e.symm)).trans (Below.heap_alloc _ _ _ hk))
    · exact hG.block k hk fun h => (hins k h).elim hn hg
  refine ⟨hb.cell, hb.frozen, boxS_cell bb, boxS_cell ((heap_setCell_other _ _ _ _ (show w.heap.size ≠ w.heap.size + 1 by omega)).symm.trans bm), (toldG w m v' (pre ++ [x])).own, hGG, fun k hk => ?_, fun hC => ⟨v', rfl, HL, fun k hk hf => ?_, Nat.le_trans h3 hGG.size, by rw [e3]; exact hC⟩⟩
  · rcases hGr k (ho' k hk) with h | h
    · exact .inl (hins k h)
    · exact .inr h
  · rcases hGr k (ho' k hf) with h | h
    · rcases hins k h with h | h
      · exact h2 k hk h
      · have := (hgo k h).1
        have := ho k hk
        omega
    · have := ho k hk
      omega
theorem it10 {W : World} {k0 : Nat} {x : Told} (h : W.heap[k0]? = some (.cells (itC x.it) 34)) : ∀ (j : Nat) (v : Value), (itC x.it)[j]? = some v → W.cell? ⟨k0, j, none⟩ = some v := fun j v hv => by
  unfold World.cell?
  rw [h]
  exact hv
/-- Parts that came while nothing that was there was touched. -/
theorem told_end {L : ShardLib Sh} {w0 w W : World} {b sd n m : Nat} {own : Nat → Prop} {st : Hs} {R : Part} {v : Value} {pre : List Told} (H : Law w0 w ((shQ L b own sd n st).and R)) (HJ : Law w W (toldG w m v pre)) {D : Nat} (hD : w.heap.size ≤ D) (hnD : ¬ (toldG w m v pre).own D) : Law w0 (W.putObj D (.deferred none)) ((shQ L b own sd n st).and ((itemsP v pre).and R)) := by
  have hg := gr_put (W := W) (F := fun k => k = D) (.deferred none) rfl
  have HE : Law w (W.putObj D (.deferred none)) (toldG w m v pre) := ⟨Gr.below HJ.below hg (fun k hk => by omega), Part.on _ _ _ HJ.q fun k hk => World.putObj_heap_other fun e => hnD (by rw [← e]; exact hk), fun k hk => ⟨(HJ.lt k hk).1, Nat.lt_of_lt_of_le (HJ.lt k hk).2 hg.size⟩⟩
  have hgb : w.grownBy (W.putObj D (.deferred none)) none := ⟨HE.below.os, HE.below.tape, HE.below.output, HE.below.size, fun k hk _ => HE.below.block k hk⟩
  have hi : ∀ k, (itemsP v pre).own k → (toldG w m v pre).own k := fun k hk => hk.elim .inl fun h => .inr (.inr (.inr (.inl h)))
  refine (H.new (A := itemsP v pre) hgb ?_ fun k hk => HE.lt k (hi k hk)).rot
  exact ⟨row_base HE.q.1 (Nat.zero_le _), HE.q.2.1.2.1.2.1.1, fun k h1 h2 => HE.q.2.2 k h1 (.inr (.inr (.inl h2)))⟩
set_option maxRecDepth 100000 in
set_option maxHeartbeats 8000000 in
theorem shAll_is (L : ShardLib Sh) {w0 w : World} {b sd n : Nat} {own : Nat → Prop} {st : Hs} {R : Part} (H : Law w0 w ((shQ L b own sd n st).and R)) (hn : n ≤ 900) (m : Nat) (hm1 : 1 ≤ m) (hm : m ≤ 1000) :
    Calls Tryz.prog 14 #[.pointer (some ⟨b, 0, none⟩), .int .i64 (m : Int)] w fun e w' => ∃ v xs, e = .returned v ∧ xs.map Told.iv = (st.ents.map Prod.fst).take m ∧ Law w0 w' ((shQ L b own sd n st).and ((itemsP v xs).and R)) := by
  refine (callsIn_wide (n := 9)).1 ?_
  obtain ⟨i0, hi, hz0, hz1, hz2⟩ := info_parts info_item
  have hmi : ¬ ((m : Int) < 1) := by omega
  have hmj : (1 : Int) ≤ (m : Int) := by omega
  have hes : st.ents.length ≤ 900 := by
    have := H.shGood.few
    omega
  have H1 := (H.alloc (.cells #[.int .i64 (m : Int)] 3)).alloc (.cells #[.slice none 0 0] 40)
  have G1 : Law w ((w.alloc (.cells #[.int .i64 (m : Int)] 3)).alloc (.cells #[.slice none 0 0] 40)) (toldG w m (.slice none 0 0) []) := by
    have h0 := ((((Law.start w).nil (n0 := 0) (e := 34) (size := 10)).box (.cells #[.int .i64 (m : Int)] 3)).box (.cells #[.slice none 0 0] 40))
    rw [World.size_alloc] at h0
    refine (h0.weak (B := toldG w m (.slice none 0 0) []) (fun h => ?_) ?_)
    · obtain ⟨b1, ⟨b2, _, _⟩, d⟩ := h
      refine ⟨World.ownsRow_nil _ _ _ _, ⟨b1, ⟨b2, ⟨fun x hx => (by cases hx), trivial, fun _ _ h => h⟩, ?_⟩, ?_⟩, ?_⟩
      · rintro k hk (⟨x, hx, _⟩ | h)
        · cases hx
        · exact h
      · rintro k hk (h | ⟨x, hx, _⟩ | h)
        · exact d k hk (.inl h)
        · cases hx
        · exact h
      · intro k hk
        cases hk
    · rintro k (hk | hk | hk | ⟨x, hx, _⟩ | hk)
      · cases hk
      · exact .inl hk
      · exact .inr (.inl hk)
      · cases hx
      · exact hk.elim
  have cm : ((w.alloc (.cells #[.int .i64 (m : Int)] 3)).alloc (.cells #[.slice none 0 0] 40)).cell? ⟨w.heap.size, 0, none⟩ = some (.int .i64 (m : Int)) := boxS_cell (show _ from G1.q.2.1.2.1.1)
  refine callsIn_of_wp_marks Tryz.func14 rfl trivial ?_ rfl
  simp only [Tryz.ntmps14, List.size_toArray, List.length_cons, List.length_nil, Nat.reduceAdd, Nat.reduceSub, Array.replicate_succ, Array.replicate_zero, List.push_toArray, List.append_toArray, List.nil_append, List.cons_append]
  gi_wp2_with (refine ⟨trivial, ?_⟩; gi_at_call 42; refine (callsIn_wide.2 (L.all H1.sh hn)).mono ?_; rintro e w1 ⟨g, lb, own2, rfl, hL1, hg1, ho1, ho2, heg, hseq⟩)
  have hsz1 := hg1.size
  simp only [World.size_alloc] at hsz1
  have hlt2 : ∀ k, own2 k → k < w1.heap.size := fun k hk => (ho2 k hk).elim (fun h => Nat.lt_of_lt_of_le (H1.lt k (.inl h)).2 hg1.size) fun h => h.2
  have hw1 : w.heap.size ≤ w1.heap.size := by omega
  have I0 : ToldI w m w1.heap.size own2 (fun k => k < m) [] w1 (toldG w m (.slice none 0 0) []).own := by
    refine ⟨_, rfl, G1.step hg1, fun k hk hf => ?_, Nat.le_refl _, hm1⟩
    have h1 := (G1.lt k hf)
    rcases ho2 k hk with h | h
    · have := (H.lt k (.inl h)).2
      omega
    · omega
  have HM : Hid (∀ xs : List Told, xs.map Told.iv = st.ents.map Prod.fst → xs.length < m → xs.map Told.iv = (st.ents.map Prod.fst).take m) := fun xs hx hl => by
    rw [← hx, List.take_of_length_le (by rw [List.length_map]; omega)]
  have HP : Hid (∀ pre : List Told, pre.map Told.iv <+: st.ents.map Prod.fst → pre.length = m → pre.map Told.iv = (st.ents.map Prod.fst).take m) := fun pre hp hl => by
    obtain ⟨r, hr⟩ := hp
    rw [← hr, List.take_left' (by rw [List.length_map]; exact hl)]
  have HS := hide H
  clear H1 cm hg1 ho2 G1 hL1 H ho1
  refine range_give_box rfl (by decide) (gf := g) (lb := lb) rfl trivial heg (hseq (9 - 1) (by decide)) (Below.refl _ _) hlt2 (fun _ => rfl)
    (ToldI w m w1.heap.size own2 (fun k => k < m)) (fun c pre W fp => c = .exit 0 ∧ ToldI w m w1.heap.size own2 (fun k => k = m) pre W fp) _ (ToldI.lasts hw1) (fun c pre V V' fp h hg hs => ⟨h.1, ToldI.lasts hw1 _ _ _ _ h.2 hg hs⟩) ToldI.foot I0 (fun x => .cells (itC x.it) 34) (fun x k => { tmps := #[.pointer (some ⟨b, 0, none⟩), .int .i64 (m : Int), undef, .pointer (some ⟨w.heap.size, 0, none⟩), .slice none 0 0, .pointer (some ⟨w.heap.size + 1, 0, none⟩), .pointer (some ⟨k, 0, none⟩), .int .i64 (m : Int), .bool false, .pointer (some ⟨b, 0, none⟩), .func (.func g) #[] lb, .agg (itC x.it), undef, undef, undef, undef, undef, undef, undef, undef, undef], defers := [] }) ?assign ?body ?done ?stop
  case assign =>
    intro l x W K hK
    unfold itEnc
    gi_wp2_with (refine wpListIn_store_row rfl 34 _ _ rfl W.heap.size (itC x.it) rfl rfl _ (itC zeroIt) (World.alloc_heap_new W _) (item_size _) rfl (item_one _) ?_)
    rw [setRow_alloc]
    exact hK
  case body =>
    rintro l pre x W fp k0 hk0 hk1 hk2 hk3 ⟨v, rfl, HJ, hj2, hj3, hlm⟩ hsp hgq hgo
    have hrow : W.ownsRow w.heap.size 34 10 v pre.length (itsV (pre.map Told.it)) := HJ.q.1
    have hcv := boxS_cell (show W.heap[w.heap.size + 1]? = some (.cells #[v] 40) from HJ.q.2.1.1)
    have hB := HJ.below.size
    have hk0l := (Array.getElem?_eq_some_iff.1 hk0).1
    have c10 := it10 hk0
    have c0 := c10 0 _ rfl
    have c1 := c10 1 _ rfl
    have c2 := c10 2 _ rfl
    have c3 := c10 3 _ rfl
    have c4 := c10 4 _ rfl
    have c5 := c10 5 _ rfl
    have c6 := c10 6 _ rfl
    have c7 := c10 7 _ rfl
    have c8 := c10 8 _ rfl
    have c9 := c10 9 _ rfl
    clear c10 HP HM hsp
    by_cases hbr : pre.length + 1 = m
    · have hbi : (pre.length : Int) + 1 = (m : Int) := by omega
      have hbb : ((pre.length : Int) + 1 == (m : Int)) = true := beq_iff_eq.2 hbi
      have HE := hide hbr
      clear hbr hbi
      obtain ⟨CC, hCC⟩ : ∃ C : Nat → Prop, C = fun k => k = m := ⟨_, rfl⟩
      gi_wp2_with (gi_at_builtin; refine wpListIn_append_own_at _ rfl _ _ 40 rfl w.heap.size 34 i0 _ 10 88 Tryz.underlying40 hi hz0 hz1 hz2 rfl (by decide) _ _ _ rfl (hrow.alloc _) ⟨W.heap.size, 0, none⟩ 1 1 (itC x.it).toList rfl rfl (row_new W (itC x.it) _) (it_one _) (by unfold maxLen; omega) (by omega) (by rw [World.size_alloc]; omega) ?_; intro v' w8 hown hgrow _ hat; obtain ⟨g', cap', rfl⟩ := ownsRow_succ hown; obtain ⟨hb8, hf8, hc8, hm8, fp', q1, q2, q3⟩ := told_next (C := CC) HJ hj2 hj3 hlt2 hgq hgo hw1 hown hgrow hat; have Q1 := hide q1; have Q2 := hide q2; have Q3 := hide q3; clear q1 q2 q3 hown hgrow hat)
      exact ⟨_, Q1.out, Q2.out, rfl, by rw [← hCC]; exact Q3.out (by rw [hCC]; exact HE.out)⟩
    · have hbi : (pre.length : Int) + 1 ≠ (m : Int) := by omega
      have hbb : ((pre.length : Int) + 1 == (m : Int)) = false := beq_eq_false_iff_ne.2 hbi
      obtain ⟨CC, hCC⟩ : ∃ C : Nat → Prop, C = fun k => k < m := ⟨_, rfl⟩
      gi_wp2_with (gi_at_builtin; refine wpListIn_append_own_at _ rfl _ _ 40 rfl w.heap.size 34 i0 _ 10 88 Tryz.underlying40 hi hz0 hz1 hz2 rfl (by decide) _ _ _ rfl (hrow.alloc _) ⟨W.heap.size, 0, none⟩ 1 1 (itC x.it).toList rfl rfl (row_new W (itC x.it) _) (it_one _) (by unfold maxLen; omega) (by omega) (by rw [World.size_alloc]; omega) ?_; intro v' w8 hown hgrow _ hat; obtain ⟨g', cap', rfl⟩ := ownsRow_succ hown; obtain ⟨hb8, hf8, hc8, hm8, fp', q1, q2, q3⟩ := told_next (C := CC) HJ hj2 hj3 hlt2 hgq hgo hw1 hown hgrow hat; have Q1 := hide q1; have Q2 := hide q2; have Q3 := hide q3; clear q1 q2 q3 hown hgrow hat)
      exact ⟨_, Q1.out, Q2.out, by rw [← hCC]; exact Q3.out (by rw [hCC]; show _ < _; omega)⟩
  case stop =>
    rintro D c pre W fp hD hpre ⟨rfl, v, rfl, HJ, hj2, hj3, hlm⟩ hK hnD
    have hbo := boxS_cell (show W.heap[w.heap.size + 1]? = some (.cells #[v] 40) from HJ.q.2.1.1)
    have HE := hide (told_end HS.out HJ (Nat.le_trans hw1 hD) hnD)
    have HX := hide (HP.out pre hpre hlm)
    clear hpre HP HM
    gi_wp2
    refine ⟨by simp, .inl ⟨_, _, rfl, run_takeDeferred hK, ?_⟩⟩
    exact ⟨_, results_tmp rfl _ _ _, v, pre, rfl, HX.out, HE.out⟩
  case done =>
    rintro D ys W fp hD hys ⟨v, rfl, HJ, hj2, hj3, hlm⟩ hK hnD
    have hbo := boxS_cell (show W.heap[w.heap.size + 1]? = some (.cells #[v] 40) from HJ.q.2.1.1)
    have HE := hide (told_end HS.out HJ (Nat.le_trans hw1 hD) hnD)
    have HX := hide (HM.out ys hys hlm)
    clear hys HP HM
    gi_wp2
    refine ⟨by simp, .inl ⟨_, _, rfl, run_takeDeferred hK, ?_⟩⟩
    exact ⟨_, results_tmp rfl _ _ _, v, ys, rfl, HX.out, HE.out⟩
end Go.Proofs.YtckjjfkfapfdaaaGreat
