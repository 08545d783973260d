/- Items, entries and their bytes in memory; what a copy of an item is. Conditions: values of at most 100000 bytes. A range over a function that itself ranges over another function: the loop's law, and the iterator's contract that it asks. Our own, over the library's rule for one such loop: what a caller keeps in mind must outlast the inner loop's records too, so the contract hands the iterator a word that does. Conditions: the body writes no block that was laid since its loop began. A range over a function that reads memory of its own, and may itself range over functions: the loop's law, and the iterator's contract that it asks. Our own, as RangeOwn's; what a caller keeps in mind has blocks of its own ('fp'), a round writes these and new ones alone, and the iterator writes none of them. Conditions: none. -/
import Derived.Test.YtckjjfkfapfdaaaGreatG01Joined
import Derived.Test.YtckjjfkfapfdaaaGreatG02Joined
import Derived.Test.YtckjjfkfapfdaaaGreatG03Joined
import Derived.Test.YtckjjfkfapfdaaaGreatG05Joined
import Derived.Great.Ranges
import Derived.Laws.Tables
import Derived.Deep.MidRow
import Derived.Laws.ResultCell
import Derived.Laws.Cover3
import Derived.Deep.CutBlock
import Derived.Deep.CutRange
import Derived.Deep.QuietTactic
import Derived.BigQuiet
import Derived.Deep.RegionHeldLaw
import Derived.Deep.RegionHeld3
import Derived.Shelf.SlSortCmp.QuietGrown
import Derived.RangeFuncNested
import Derived.RangeFuncBound
import Derived.RangeFuncCalls
import Derived.RangeFuncLeaves
import Derived.RangeFuncBox
import Derived.Shelf.Abstract
import Derived.Shelf.RegionOpen
import Derived.OwnWalkIn
import Derived.TacticsInMore
import Derived.LoopNIn
import Derived.LoopIn
import Derived.Test.YtckjjfkfapfdaaaGreatG00Joined
namespace Go.Proofs.YtckjjfkfapfdaaaGreat
open Go.RowKit

/-- Bytes as cells. -/
def byU (l : List UInt8) : List Value := byV (ints l)
theorem byU_len (l : List UInt8) : (byU l).length = l.length := by unfold byU byV; rw [List.length_map, ints_len]
theorem byU_get {l : List UInt8} {i : Nat} (h : i < l.length) : (byU l)[i]? = some (.int .u8 ((ints l).getD i 0)) := by
  unfold byU byV
  have : i < (ints l).length := by rw [ints_len]; exact h
  rw [List.getElem?_map, List.getElem?_eq_getElem this]
  simp [List.getD, List.getElem?_eq_getElem this]
/-- A value's bytes, in a row of its own. -/
def ValAt (n0 : Nat) (w : World) (a : Option Addr) (c : Nat) (l : List UInt8) : Prop := w.ownsRow n0 5 1 (.slice a l.length c) l.length (byU l)
/-- The same as a part. -/
def valP (n0 : Nat) (a : Option Addr) (c : Nat) (l : List UInt8) : Part := rowP n0 5 1 (.slice a l.length c) l.length (byU l)
theorem ValAt.new {F : Nat → Prop} {w0 w w' : World} {a : Option Addr} {c : Nat} {l : List UInt8} {R : Part} (h : ValAt w.heap.size w' a c l) (H : LawF F w0 w R) (hg : w.grownBy w' none) : LawF F w0 w' ((valP w.heap.size a c l).and R) :=
  H.new (A := valP w.heap.size a c l) hg h fun _ hk => ⟨(own_at h hk).1, (own_at h hk).2.1⟩
theorem LawF.grownN {w W : World} {A : Part} (H : LawF (fun _ => False) w W A) : w.grownBy W none := H.gr.to fun _ h => h.elim
theorem ValAt.bs {n0 : Nat} {w : World} {a : Option Addr} {c : Nat} {l : List UInt8} (h : ValAt n0 w a c l) : Bs w a l.length c (ints l) := by
  by_cases h0 : l.length = 0
  · refine .inl ⟨h0, ?_, fun ha => ?_⟩
    · rw [List.eq_nil_of_length_eq_zero h0]
      rfl
    · subst ha
      rcases h.2 with ⟨h1, _⟩ | ⟨g, cap, cur, h1, _⟩
      · exact (Value.slice.inj h1).2.2
      · cases h1
  · obtain ⟨g, cap, e⟩ := own_form h (by omega)
    cases e
    have hc := own_cap h
    refine .inr ⟨g, 0, rfl, by omega, hc.1, ints_len l, ints_byt l, fun i hi => ?_, (own_at h rfl).2.1⟩
    have h' : w.ownsRow n0 5 1 (.slice (some ⟨g, 0, none⟩) l.length c) l.length (byU l) := h
    rw [Nat.zero_add, h'.cellAt i (by omega), byU_get hi]
theorem ValAt.base {n0 n1 : Nat} {w : World} {a : Option Addr} {c : Nat} {l : List UInt8} (h : ValAt n0 w a c l) (hn : n1 ≤ n0) : ValAt n1 w a c l := by
  refine ⟨h.1, ?_⟩
  rcases h.2 with h1 | ⟨g, cap, cur, h1, h2, h3⟩
  · exact .inl h1
  · exact .inr ⟨g, cap, cur, h1, Nat.le_trans hn h2, h3⟩
/-- All of them are appended. -/
theorem run_append_bs (w : World) (base : Nat) (ty : TypeId) {v : Value} {n : Nat} {xs : List Value} {a : Option Addr} {len cap : Nat} {l : List UInt8} (hown : w.ownsRow base 5 1 v n xs) (hl : l.length = len) (hr : Bs w a len cap (ints l)) (hn : n + len ≤ 100000000) (hb : base ≤ w.heap.size) :
    ∃ v' w', (Builtin.append_ #[31, 31] ty #[v, .slice a len cap]).run Tryz.prog w = .ok v' w' ∧ w'.ownsRow base 5 1 v' (n + len) (xs ++ byU l) ∧ w.grownBy w' v.ownBlock ∧ (v'.ownBlock = v.ownBlock ∨ v'.ownBlock = some w.heap.size) := by
  obtain ⟨i0, hi, hz0, hz1, hz2⟩ := info_parts info_byte
  cases a with
  | none =>
    obtain ⟨rfl, h0, hc⟩ : len = 0 ∧ ints l = [] ∧ cap = 0 := by
      rcases hr with ⟨h1, h2, h3⟩ | ⟨b, off, r⟩
      · exact ⟨h1, h2, h3 rfl⟩
      · cases r.at_
    subst hc
    refine ⟨v, w, run_append_owned_none w base 31 ty 5 i0 1 Tryz.underlying31 hi v n xs hown, ?_, gr_refl _ _, .inl rfl⟩
    unfold byU
    rw [h0]
    simpa [byV] using hown
  | some x =>
    have hlb : (byU l).length = len * 1 := by rw [byU_len, hl, Nat.mul_one]
    have hnews : ∀ (j : Nat) (u : Value), (byU l)[j]? = some u → w.cell? (x.add j) = some u := by
      intro j u hu
      have hj : j < len := by
        have := (List.getElem?_eq_some_iff.1 hu).1
        rw [byU_len] at this
        omega
      rcases hr with ⟨h1, _⟩ | ⟨b, off, r⟩
      · omega
      · obtain rfl : x = ⟨b, off, none⟩ := Option.some.inj r.at_
        rw [add_at, r.cell j hj, ← hu, byU_get (by omega)]
    obtain ⟨v', w', q1, q2, q3, _, q5⟩ := run_append_own_at (P := Tryz.prog) w base 31 ty 5 i0 (.int .u8 0) 1 1 Tryz.underlying31 hi hz0 hz1 hz2 rfl (by decide) v n xs hown x len cap (byU l) hlb hnews (fun u hu => by
      unfold byU byV at hu
      obtain ⟨z, _, rfl⟩ := List.mem_map.1 hu
      rfl) (by unfold maxLen; omega) (by omega) hb
    exact ⟨v', w', q1, q2, q3, q5⟩
theorem wpList_append_bs {w : World} {ops : Array Oper} {rest : List Oper} {o : Oper} {a : Act} {Q : Exit → Act → World → Prop} (hgd : o.guard = none) (s x : Operand) (ho : o.op = .call { callee := .builtin .append, args := #[s, x], argTypes := #[31, 31] })
    (base : Nat) (v : Value) (n : Nat) (xs : List Value) (hs : a.eval s = v) (hown : w.ownsRow base 5 1 v n xs) (b : Option Addr) (len cap : Nat) (l : List UInt8) (hx : a.eval x = .slice b len cap) (hl : l.length = len) (hr : Bs w b len cap (ints l)) (hn : n + len ≤ 100000000) (hb : base ≤ w.heap.size)
    (h : ∀ v' w', w'.ownsRow base 5 1 v' (n + len) (xs ++ byU l) → w.grownBy w' v.ownBlock → (v'.ownBlock = v.ownBlock ∨ v'.ownBlock = some w.heap.size) → wpList Tryz.prog ops Q rest (a.put o.dst v') w') :
    wpList Tryz.prog ops Q (o :: rest) a w := by
  refine wpList_plain hgd fun K hK => ?_
  obtain ⟨v', w', hr, h2, h3, h5⟩ := run_append_bs w base o.type hown hl hr hn hb
  unfold Oper.wp execOp
  simp only [ho, resolve, invoke, builtin, Sem.run_bind, Sem.run_pure, Result.andThen_ok, List.map_toArray, List.map_cons, List.map_nil, hs, hx, hr]
  exact hK _ _ (h v' w' h2 h3 h5)
def zeroIt : It := ⟨⟨#[]⟩, none, 0, 0, 0, 0, 0, 0, 0, false, false, false⟩
theorem item_size (i : It) : (Tryz.prog.info? 34).map (·.size) = some (itC i).size := by
  have h : (Tryz.prog.info? 34).map (·.size) = some 10 := by kernel_rfl
  exact h
theorem env_size (e : En) : (Tryz.prog.info? 36).map (·.size) = some (enC e).size := by
  have h : (Tryz.prog.info? 36).map (·.size) = some 4 := by kernel_rfl
  exact h
theorem item_one (i : It) : (itC i).all (·.oneCell') = true := by simp [itC, Value.oneCell']
theorem env_one (e : En) : (enC e).all (·.oneCell') = true := by simp [enC, Value.oneCell']
/-- A copy of bytes. -/
theorem Bs.alloc {w : World} {a : Option Addr} {len cap : Nat} {es : List Int} (h : Bs w a len cap es) (o : Obj) : Bs (w.alloc o) a len cap es := h.on (below_gr (World.grownBy_alloc w o none))
theorem owns_empty (w : World) : (w.alloc (.cells #[] 5)).ownsRow w.heap.size 5 1 (.slice (some ⟨w.heap.size, 0, none⟩) 0 0) 0 [] :=
  ⟨rfl, .inr ⟨w.heap.size, 0, #[], rfl, Nat.le_refl _, heap_alloc_new w _, Nat.le_refl _, Nat.zero_le _, rfl, rfl⟩⟩
theorem eql_nil (a : Option Addr) (n c : Nat) (w : World) : (binOp .eql 31 (.slice a n c) (.slice none 0 0)).run Tryz.prog w = .ok (.bool a.isNone) w := by
  simp only [binOp]
  simp [run_equal_slice_nil w 31 5 a n c Tryz.underlying31]
set_option maxRecDepth 100000 in
set_option maxHeartbeats 1000000 in
theorem clone_any {w : World} {a : Option Addr} {c : Nat} {l : List UInt8} (hl : l.length ≤ 100000) (hr : Bs w a l.length c (ints l)) :
    Calls Tryz.prog 87 #[.slice a l.length c] w fun e w' => ∃ a' c', e = .returned (.slice a' l.length c') ∧ ValAt w.heap.size w' a' c' l ∧ w.grownBy w' none := by
  obtain ⟨n, hn⟩ : ∃ n, l.length = n := ⟨_, rfl⟩
  unfold ValAt
  rw [hn] at hr hl ⊢
  cases a with
  | none =>
    obtain ⟨rfl, h0, rfl⟩ : n = 0 ∧ ints l = [] ∧ c = 0 := by
      rcases hr with ⟨h1, h2, h3⟩ | ⟨b, off, r⟩
      · exact ⟨h1, h2, h3 rfl⟩
      · cases r.at_
    have hb : byU l = [] := by unfold byU; rw [h0]; rfl
    have hE := fun W => eql_nil none 0 0 W
    clear hr
    go_enter Tryz.func87, Tryz.ntmps87
    go_wp2
    go_ret
    exact ⟨_, _, rfl, by rw [hb]; exact World.ownsRow_nil _ _ _ _, gr_refl _ _⟩
  | some x =>
    have hr2 := hr.alloc (.cells #[] 5)
    have ho := owns_empty w
    have hg0 := World.grownBy_alloc w (.cells #[] 5) none
    have hsz : w.heap.size ≤ (w.alloc (.cells #[] 5)).heap.size := hg0.size
    have hE := fun W => eql_nil (some x) n c W
    clear hr
    go_enter Tryz.func87, Tryz.ntmps87
    go_wp2_with (at_builtin; refine wpList_append_bs rfl _ _ rfl w.heap.size _ _ _ rfl ho _ _ _ l rfl hn hr2 (by omega) hsz ?_; intro v1 w1 hown1 hg1 hat1; rw [Nat.zero_add] at hown1)
    obtain ⟨a1, c1, rfl⟩ := own_shape hown1
    go_ret
    exact ⟨_, _, rfl, hown1, gr_new hg0 hg1 (Nat.le_refl _)⟩
end Go.Proofs.YtckjjfkfapfdaaaGreat

namespace Go.Proofs.YtckjjfkfapfdaaaGreat
open Go.RowKit Go.Shelf

/-- Whatever lay at block B or beyond lies as it lay. -/
structure Since (B : Nat) (W W' : World) : Prop where
  size : W.heap.size ≤ W'.heap.size
  same : ∀ k, B ≤ k → k < W.heap.size → W'.heap[k]? = W.heap[k]?
theorem Since.refl (B : Nat) (W : World) : Since B W W := ⟨Nat.le_refl _, fun _ _ _ => rfl⟩
theorem Since.trans {B : Nat} {X Y Z : World} (h : Since B X Y) (k : Since B Y Z) : Since B X Z :=
  ⟨Nat.le_trans h.size k.size, fun i hi hl => (k.same i hi (Nat.lt_of_lt_of_le hl h.size)).trans (h.same i hi hl)⟩
theorem Since.mono {B C : Nat} {X Y : World} (h : Since B X Y) (hc : B ≤ C) : Since C X Y := ⟨h.size, fun i hi hl => h.same i (Nat.le_trans hc hi) hl⟩
theorem Since.grown {B : Nat} {X Y : World} {row : Option Nat} (hg : X.grownBy Y row) (hr : ∀ r, row = some r → r < B) : Since B X Y :=
  ⟨hg.size, fun i hi hl => hg.block i hl (fun e => by have := hr i e.symm; omega)⟩
theorem Since.drew (B : Nat) (X : World) : Since B X X.drew := ⟨Nat.le_refl _, fun _ _ _ => rfl⟩
theorem Since.keeps {B C : Nat} {X Y : World} (h : Since B X Y) (hc : B ≤ C) : KeepsFrom C X Y :=
  ⟨h.size, fun k _ hk ho _ => (h.same k (Nat.le_trans hc hk) (Array.getElem?_eq_some_iff.1 ho).1).trans ho⟩
theorem Since.block {B k : Nat} {X Y : World} {o : Obj} (h : Since B X Y) (hk : B ≤ k) (ho : X.heap[k]? = some o) : Y.heap[k]? = some o :=
  (h.same k hk (Array.getElem?_eq_some_iff.1 ho).1).trans ho
theorem Since.boxed {B k : Nat} {X Y : World} {t : TypeId} {v : Value} (h : Since B X Y) (hk : B ≤ k) (hb : Boxed X k t v) : Boxed Y k t v := h.block hk hb
theorem Since.put {B l : Nat} {X : World} (o : Obj) (h : l < B) : Since B X (X.putObj l o) := by
  refine ⟨?_, fun k hk _ => World.putObj_heap_other (show k ≠ l by omega)⟩
  have := (grownBy_putObj' X l o).size
  exact this

theorem own_more {β : Type} {B C : Nat} {I : β → World → Prop} (h : OwnFrom B I) (hc : B ≤ C) : OwnFrom C I := fun s W W' row hs hg hr =>
  h s W W' row hs hg fun r e => ⟨Nat.le_trans hc (hr r e).1, (hr r e).2⟩
/-- An elder block lies as it lay. -/
theorem own_old {β : Type} {B k : Nat} (o : Obj) (h : k < B) : OwnFrom B (fun (_ : β) W => W.heap[k]? = some o) := fun _ W W' row hs hg hr =>
  (hg.block k (Array.getElem?_eq_some_iff.1 hs).1 (fun e => by have := (hr k e.symm).1; omega)).trans hs
theorem own_grown {β : Type} {B : Nat} {w : World} {x : Option Nat} (h : w.heap.size ≤ B) : OwnFrom B (fun (_ : β) W => w.grownBy W x) := fun _ _ _ _ hs hg hr =>
  ⟨hg.1.trans hs.1, hg.2.trans hs.2, hg.3.trans hs.3, Nat.le_trans hs.4 hg.4, fun k hk hx => (hg.5 k (Nat.lt_of_lt_of_le hk hs.4) (fun e => by have := (hr k e.symm).1; omega)).trans (hs.5 k hk hx)⟩
theorem own_drew {β : Type} {B : Nat} {I : β → World → Prop} (h : OwnFrom B I) {s : β} {W : World} (hs : I s W) : I s W.drew :=
  h s W W.drew none hs ⟨rfl, rfl, rfl, Nat.le_refl _, fun _ _ _ => rfl⟩ (fun _ e => by cases e)
theorem own_put {β : Type} {B : Nat} {I : β → World → Prop} (h : OwnFrom B I) {s : β} {W : World} {l : Nat} {o : Obj} (o' : Obj) (hs : I s W) (hl : B ≤ l) (ho : W.heap[l]? = some o) (hc : o.isCells = false) : I s (W.putObj l o') :=
  h s W _ (some l) hs (grownBy_putObj' W l o') (fun r e => by cases e; exact ⟨hl, o, ho, hc⟩)
theorem own_new {β : Type} {B : Nat} {I : β → World → Prop} (h : OwnFrom B I) {s : β} {W : World} (o : Obj) (hs : I s W) : I s (W.alloc o) :=
  h s W _ none hs (World.grownBy_alloc W o none) (fun _ e => by cases e)

/-- The contract of a function that may range over another one: whatever the caller keeps in mind outlasts new blocks, and turns of such blocks laid since the call began as hold no cells; each round keeps all blocks laid since the call began. -/
def SeqOwn {α : Type} (F : Fence) (n : Nat) (P : Program) (g : Nat) (lb : Array Value) (encs : α → Array Value) (S Sp : List α → Prop) (N : Nat) (w : World) : Prop :=
  ∀ (l : Nat) (J Jx : List α → World → Prop) (W : World), Below w.heap.size w W → OwnFrom W.heap.size J → OwnFrom W.heap.size Jx →
    (∀ pre x V, J pre V → pre.length < N → YieldAt F (n - 1) P l (encs x) V fun e V' =>
      Since W.heap.size V V' ∧ ((e = .returned (.bool true) ∧ J (pre ++ [x]) V') ∨ (e = .returned (.bool false) ∧ Jx (pre ++ [x]) V'))) →
    J [] W →
    CallsIn F n P g (#[.func (.yield l) #[] #[]] ++ lb) W fun e W' => (∃ v, e = .returned v) ∧ ((∃ xs, S xs ∧ J xs W') ∨ (∃ pre, Sp pre ∧ Jx pre W'))

/-- How a round's body may end. -/
def sincePost {α : Type} (B : Nat) (I : List α → World → Prop) (Ix : Code → List α → World → Prop) (xs : List α) (W : World) : Exit → Act → World → Prop
  | .normal, _, V => Since B W V ∧ I xs V
  | .ret, _, V => Since B W V ∧ Ix .ret xs V
  | .exit id, _, V => Since B W V ∧ Ix (.exit id) xs V
  | .goto t, _, V => Since B W V ∧ Ix (.goto t) xs V
  | .panic _, _, _ => False
  | .outgrown, _, _ => False

theorem range_own {F : Fence} {n : Nat} {P : Program} {α : Type} {g : Operand} {ps : Array Tmp} {assign body : Code} {Q : Exit → Act → World → Prop} {a : Act} {w : World}
    (hro : F.round = none) (h1 : 1 ≤ n) {gf : Nat} {lb : Array Value} (hg : a.eval g = .func (.func gf) #[] lb) (hFg : F.fn gf) (eg : ∀ args w, (callFunc gf args).run P w = .ok (.enter gf args) w)
    {encs : α → Array Value} {S Sp : List α → Prop} {N : Nat} {w0 : World} (hseq : SeqOwn F (n - 1) P gf lb encs S Sp N w0) (hb0 : Below w0.heap.size w0 w) (hps : ∀ x, (encs x).size = ps.size)
    (I : List α → World → Prop) (Ix : Code → List α → World → Prop) (hI : OwnFrom w.heap.size I) (hIx : ∀ c, OwnFrom w.heap.size (Ix c)) (h0 : I [] w) (act : α → Act)
    (hassign : ∀ (l : Nat) (x : α) (W : World) (K : Act → World → Prop), K (act x) W →
      assign.wpIn (F.inRound l) (n - 1 - 1) P (Exit.then K (fun _ _ _ => False)) { tmps := (ps.zip (encs x)).foldl (fun t (p, v) => t.setIfInBounds p v) a.tmps, defers := [] } W)
    (hbody : ∀ (l : Nat) (pre : List α) (x : α) (W : World), I pre W → pre.length < N → body.wpIn (F.inRound l) (n - 1 - 1) P (sincePost w.heap.size I Ix (pre ++ [x]) W) (act x) W)
    (hdone : ∀ (D : Nat) (xs : List α) (W : World), w.heap.size ≤ D → S xs → I xs W → W.heap[D]? = some (.deferred (some [])) → Q .normal { a with defers := { target := .collected D, args := #[] } :: a.defers } W)
    (hstop : ∀ (D : Nat) (c : Code) (pre : List α) (W : World), w.heap.size ≤ D → Sp pre → Ix c pre W → W.heap[D]? = some (.deferred (some [])) → c.wpIn F n P Q { a with defers := { target := .collected D, args := #[] } :: a.defers } W) :
    (Code.rangeFunc g ps assign body).wpIn F n P Q a w := by
  refine wpIn_rangeFunc fun fn hfn => ?_
  rw [hro]
  obtain ⟨D, eD⟩ : ∃ D, D = w.heap.size := ⟨_, rfl⟩
  obtain ⟨R, eR⟩ : ∃ R : LoopState → Option Code → Loop, R = fun st pe => { state := st, pending := pe, fn, tmps := a.tmps, params := ps, assign, body, defers := D } := ⟨_, rfl⟩
  obtain ⟨X, eX⟩ : ∃ X, X = (w.alloc (.deferred (some []))).alloc (.loop (R .ready none)) := ⟨_, rfl⟩
  have sX : X.heap.size = D + 2 := by rw [eX, eD, World.size_alloc, World.size_alloc]
  have lX : X.heap[D + 1]? = some (.loop (R .ready none)) := by
    have := World.alloc_heap_new (w.alloc (.deferred (some []))) (.loop (R .ready none))
    rw [World.size_alloc, ← eD, ← eX] at this
    exact this
  have dX : X.heap[D]? = some (.deferred (some [])) := by
    rw [eX, Below.heap_alloc _ _ _ (by rw [World.size_alloc]; omega), eD]
    exact World.alloc_heap_new w _
  have iX : I [] X := by rw [eX]; exact own_new hI _ (own_new hI _ h0)
  have bX : Below w0.heap.size w0 X := by
    rw [eX]
    exact hb0.trans ((((Below.refl _ w).alloc (Nat.le_refl _) _).alloc (by rw [World.size_alloc]; omega) _).mono hb0.size)
  refine ⟨D + 1, [{ target := .collected D, args := #[] }], X, { target := .fn (.func gf) lb, args := #[.func (.yield (D + 1)) #[] #[]] }, X, gf, #[.func (.yield (D + 1)) #[] #[]] ++ lb, X, ?enter, ?res, ?leads, ?inv, fun _ => h1, ?call⟩
  case enter =>
    rw [eX, eR, eD]
    exact run_enterLoop_outer _ _ _ _ _
  case res =>
    simp only [resolve, hg]
    simp [go_sem]
  case leads =>
    intro f' hf'
    simp [Target.leads] at hf'
    subst hf'
    exact hFg
  case inv => simp [invoke, go_sem, eg]
  case call =>
    have oJ : OwnFrom X.heap.size (fun pre W => I pre W ∧ W.heap[D + 1]? = some (.loop (R .ready none)) ∧ W.heap[D]? = some (.deferred (some []))) :=
      OwnFrom.and (own_more hI (by omega)) (OwnFrom.and (own_old _ (by omega)) (own_old _ (by omega)))
    have oK : OwnFrom X.heap.size (fun pre W => ∃ c, Ix c pre W ∧ W.heap[D + 1]? = some (.loop (R .done (some c))) ∧ W.heap[D]? = some (.deferred (some []))) := fun s A B row hs hg' hr => by
      obtain ⟨c, hc⟩ := hs
      exact ⟨c, OwnFrom.and (own_more (hIx c) (by omega)) (OwnFrom.and (own_old _ (by omega)) (own_old _ (by omega))) s A B row hc hg' hr⟩
    refine (hseq (D + 1) _ _ X bX oJ oK ?round ⟨iX, lX, dX⟩).mono ?behind
    case round =>
      rintro pre x W ⟨hi, hl, hd⟩ hlen
      have hlt : D + 1 < W.heap.size := (Array.getElem?_eq_some_iff.1 hl).1
      have hy := run_yield (P := P) (args := encs x) hl (by rw [eR]; exact hps x)
      rw [eR] at hy
      refine ⟨fn, _, assign, body, hy, roundIn_of_wpIn hfn (hassign _ x W _ ⟨_, run_beginRound hl (by rw [eR]), ?_⟩)⟩
      obtain ⟨V, eV⟩ : ∃ V, V = W.putObj (D + 1) (.loop { R .ready none with state := .busy }) := ⟨_, rfl⟩
      have lV : V.heap[D + 1]? = some (.loop { R .ready none with state := .busy }) := by rw [eV]; exact World.putObj_heap_same hlt
      have dV : V.heap[D]? = some (.deferred (some [])) := by rw [eV]; exact (World.putObj_heap_other (by omega)).trans hd
      have sV : Since X.heap.size W V := by rw [eV]; exact Since.put _ (by omega)
      have iV : I pre V := by rw [eV]; exact own_put hI _ hi (by omega) hl rfl
      rw [← eV]
      refine wpIn_mono (hbody _ pre x V iV hlen) ?_
      have tail : ∀ (jump : Option Code) (Z : World), Since w.heap.size V Z → ∃ Y, (Instr.endRound (D + 1) jump).run P Z = .ok (.bool jump.isNone) Y ∧ Since X.heap.size W Y ∧ Y.heap[D + 1]? = some (.loop (R (if jump.isNone then .ready else .done) jump)) ∧ Y.heap[D]? = some (.deferred (some [])) ∧
          (∀ {J : List α → World → Prop} {q : List α}, OwnFrom w.heap.size J → J q Z → J q Y) := fun jump Z hZ => by
        have lZ := hZ.block (by omega) lV
        have dZ := hZ.block (by omega) dV
        have zlt : D + 1 < Z.heap.size := (Array.getElem?_eq_some_iff.1 lZ).1
        have hr := run_endRound (P := P) jump lZ
        rw [eR] at hr
        refine ⟨Z.putObj (D + 1) (.loop (R (if jump.isNone then .ready else .done) jump)), ?_, (sV.trans (hZ.mono (by omega))).trans (Since.put _ (by omega)), World.putObj_heap_same zlt, (World.putObj_heap_other (by omega)).trans dZ, fun hJ hj => own_put hJ _ hj (by omega) lZ rfl⟩
        rw [eR]
        exact hr
      rintro e b Z hp
      cases e with
      | normal =>
        obtain ⟨Y, hr, sY, lY, dY, keep⟩ := tail none Z hp.1
        exact ⟨_, _, hr, sY, .inl ⟨rfl, keep hI hp.2, lY, dY⟩⟩
      | ret =>
        obtain ⟨Y, hr, sY, lY, dY, keep⟩ := tail (some .ret) Z hp.1
        exact ⟨_, _, hr, sY, .inr ⟨rfl, .ret, keep (hIx _) hp.2, lY, dY⟩⟩
      | exit id =>
        obtain ⟨Y, hr, sY, lY, dY, keep⟩ := tail (some (.exit id)) Z hp.1
        exact ⟨_, _, hr, sY, .inr ⟨rfl, .exit id, keep (hIx _) hp.2, lY, dY⟩⟩
      | goto t =>
        obtain ⟨Y, hr, sY, lY, dY, keep⟩ := tail (some (.goto t)) Z hp.1
        exact ⟨_, _, hr, sY, .inr ⟨rfl, .goto t, keep (hIx _) hp.2, lY, dY⟩⟩
      | panic ch => exact hp.elim
      | outgrown => exact hp.elim
    case behind =>
      rintro e W2 ⟨⟨v, rfl⟩, ⟨xs, hS, hi, hl, hd⟩ | ⟨pre, hSp, c, hi, hl, hd⟩⟩
      · have hr := run_endLoop (P := P) hl (by rw [eR]; simp)
        rw [eR] at hr
        exact ⟨none, _, hr, hdone D xs _ (by omega) hS (own_put hI _ hi (by omega) hl rfl) ((World.putObj_heap_other (by omega)).trans hd)⟩
      · have hr := run_endLoop (P := P) hl (by rw [eR]; simp)
        rw [eR] at hr
        exact ⟨some c, _, hr, hstop D c pre _ (by omega) hSp (own_put (hIx c) _ hi (by omega) hl rfl) ((World.putObj_heap_other (by omega)).trans hd)⟩

/-- Where all orders of a region meet. -/
def Meets (b : Act) (v : World) : Exit → Act → World → Prop
  | .normal, a, w => a = b ∧ w = v
  | _, _, _ => False
theorem Meets.imp {Q : Exit → Act → World → Prop} {b : Act} {v : World} (h : Q .normal b v) : ∀ e a w, Meets b v e a w → Q e a w := fun e a w => by
  cases e with
  | normal =>
    rintro ⟨rfl, rfl⟩
    exact h
  | _ => exact fun hm => (hm : False).elim
end Go.Proofs.YtckjjfkfapfdaaaGreat

namespace Go.Proofs.YtckjjfkfapfdaaaGreat
open Go.RowKit Go.Shelf

def SameOn (own : Nat → Prop) (W W' : World) : Prop := ∀ k, own k → W'.heap[k]? = W.heap[k]?
/-- What is kept in mind outlasts what others write from block B on. -/
def Lasts {α : Type} (B : Nat) (J : List α → World → (Nat → Prop) → Prop) : Prop := ∀ pre V V' fp, J pre V fp → Gr (fun k => B ≤ k) V V' → SameOn fp V V' → J pre V' fp
/-- The contract of a function that goes over what it has in memory. -/
def SeqSep {α : Type} (F : Fence) (n : Nat) (P : Program) (g : Nat) (lb : Array Value) (encs : α → Array Value) (own : Nat → Prop) (S Sp : List α → Prop) (N : Nat) (w : World) : Prop :=
  ∀ (l : Nat) (J Jx : List α → World → (Nat → Prop) → Prop) (fp0 : Nat → Prop) (W : World), Below w.heap.size w W → Lasts W.heap.size J → Lasts W.heap.size Jx →
    (∀ pre V fp, J pre V fp → ∀ k, fp k → k < V.heap.size ∧ ¬ own k) →
    (∀ pre x V fp, J pre V fp → pre.length < N → YieldAt F (n - 1) P l (encs x) V fun e V' => ∃ fp', Gr fp V V' ∧ Grew V fp fp' ∧
      ((e = .returned (.bool true) ∧ J (pre ++ [x]) V' fp') ∨ (e = .returned (.bool false) ∧ Jx (pre ++ [x]) V' fp'))) →
    J [] W fp0 →
    CallsIn F n P g (#[.func (.yield l) #[] #[]] ++ lb) W fun e W' => (∃ v, e = .returned v) ∧ ((∃ xs fp, S xs ∧ J xs W' fp) ∨ (∃ pre fp, Sp pre ∧ Jx pre W' fp))

/-- How a round's body may end. -/
def sepPost {α : Type} (fp : Nat → Prop) (I : List α → World → (Nat → Prop) → Prop) (Ix : Code → List α → World → (Nat → Prop) → Prop) (xs : List α) (W : World) : Exit → Act → World → Prop
  | .normal, _, V => ∃ fp', Gr fp W V ∧ Grew W fp fp' ∧ I xs V fp'
  | .ret, _, V => ∃ fp', Gr fp W V ∧ Grew W fp fp' ∧ Ix .ret xs V fp'
  | .exit id, _, V => ∃ fp', Gr fp W V ∧ Grew W fp fp' ∧ Ix (.exit id) xs V fp'
  | .goto t, _, V => ∃ fp', Gr fp W V ∧ Grew W fp fp' ∧ Ix (.goto t) xs V fp'
  | .panic _, _, _ => False
  | .outgrown, _, _ => False
theorem gr_put {W : World} {l : Nat} {F : Nat → Prop} (o : Obj) (h : F l) : Gr F W (W.putObj l o) := by
  have := grownBy_putObj' W l o
  exact ⟨this.1, this.2, this.3, this.4, fun k hk hf => this.5 k hk (fun e => hf (by cases e; exact h))⟩
theorem Gr.mono {F G : Nat → Prop} {a b : World} (h : Gr F a b) (hG : ∀ k, F k → G k) : Gr G a b := ⟨h.os, h.tape, h.output, h.size, fun k hk hn => h.block k hk fun hf => hn (hG k hf)⟩

theorem range_sep {F : Fence} {n : Nat} {P : Program} {α : Type} {g : Operand} {ps : Array Tmp} {assign body : Code} {Q : Exit → Act → World → Prop} {a : Act} {w : World}
    (hro : F.round = none) (h1 : 1 ≤ n) {gf : Nat} {lb : Array Value} (hg : a.eval g = .func (.func gf) #[] lb) (hFg : F.fn gf) (eg : ∀ args w, (callFunc gf args).run P w = .ok (.enter gf args) w)
    {encs : α → Array Value} {own : Nat → Prop} {S Sp : List α → Prop} {N : Nat} {w0 : World} (hseq : SeqSep F (n - 1) P gf lb encs own S Sp N w0) (hb0 : Below w0.heap.size w0 w) (hown : ∀ k, own k → k < w.heap.size) (hps : ∀ x, (encs x).size = ps.size)
    (I : List α → World → (Nat → Prop) → Prop) (Ix : Code → List α → World → (Nat → Prop) → Prop) (fp0 : Nat → Prop) (hI : Lasts w.heap.size I) (hIx : ∀ c, Lasts w.heap.size (Ix c)) (hfp : ∀ pre V fp, I pre V fp → ∀ k, fp k → k < V.heap.size ∧ ¬ own k) (h0 : I [] w fp0) (act : α → Act)
    (hassign : ∀ (l : Nat) (x : α) (W : World) (K : Act → World → Prop), K (act x) W →
      assign.wpIn (F.inRound l) (n - 1 - 1) P (Exit.then K (fun _ _ _ => False)) { tmps := (ps.zip (encs x)).foldl (fun t (p, v) => t.setIfInBounds p v) a.tmps, defers := [] } W)
    (hbody : ∀ (l : Nat) (pre : List α) (x : α) (W : World) (fp : Nat → Prop), I pre W fp → pre.length < N → body.wpIn (F.inRound l) (n - 1 - 1) P (sepPost fp I Ix (pre ++ [x]) W) (act x) W)
    (hdone : ∀ (D : Nat) (xs : List α) (W : World) (fp : Nat → Prop), w.heap.size ≤ D → S xs → I xs W fp → W.heap[D]? = some (.deferred (some [])) → ¬ fp D → Q .normal { a with defers := { target := .collected D, args := #[] } :: a.defers } W)
    (hstop : ∀ (D : Nat) (c : Code) (pre : List α) (W : World) (fp : Nat → Prop), w.heap.size ≤ D → Sp pre → Ix c pre W fp → W.heap[D]? = some (.deferred (some [])) → ¬ fp D → c.wpIn F n P Q { a with defers := { target := .collected D, args := #[] } :: a.defers } W) :
    (Code.rangeFunc g ps assign body).wpIn F n P Q a w := by
  refine wpIn_rangeFunc fun fn hfn => ?_
  rw [hro]
  obtain ⟨D, eD⟩ : ∃ D, D = w.heap.size := ⟨_, rfl⟩
  obtain ⟨R, eR⟩ : ∃ R : LoopState → Option Code → Loop, R = fun st pe => { state := st, pending := pe, fn, tmps := a.tmps, params := ps, assign, body, defers := D } := ⟨_, rfl⟩
  obtain ⟨X, eX⟩ : ∃ X, X = (w.alloc (.deferred (some []))).alloc (.loop (R .ready none)) := ⟨_, rfl⟩
  have sX : X.heap.size = D + 2 := by rw [eX, eD, World.size_alloc, World.size_alloc]
  have lX : X.heap[D + 1]? = some (.loop (R .ready none)) := by
    have := World.alloc_heap_new (w.alloc (.deferred (some []))) (.loop (R .ready none))
    rw [World.size_alloc, ← eD, ← eX] at this
    exact this
  have dX : X.heap[D]? = some (.deferred (some [])) := by
    rw [eX, Below.heap_alloc _ _ _ (by rw [World.size_alloc]; omega), eD]
    exact World.alloc_heap_new w _
  have gX : w.grownBy X none := by
    rw [eX]
    exact gr_trans (World.grownBy_alloc _ _ _) (World.grownBy_alloc _ _ _)
  have iX : I [] X fp0 := hI _ _ _ _ h0 ⟨gX.1, gX.2, gX.3, gX.4, fun k hk _ => gX.5 k hk (by simp)⟩ fun k hk => gX.5 k (hfp _ _ _ h0 k hk).1 (by simp)
  have bX : Below w0.heap.size w0 X := by
    rw [eX]
    exact hb0.trans ((((Below.refl _ w).alloc (Nat.le_refl _) _).alloc (by rw [World.size_alloc]; omega) _).mono hb0.size)
  have f0 : ¬ fp0 D ∧ ¬ fp0 (D + 1) := ⟨fun h => by have := (hfp _ _ _ h0 _ h).1; omega, fun h => by have := (hfp _ _ _ h0 _ h).1; omega⟩
  refine ⟨D + 1, [{ target := .collected D, args := #[] }], X, { target := .fn (.func gf) lb, args := #[.func (.yield (D + 1)) #[] #[]] }, X, gf, #[.func (.yield (D + 1)) #[] #[]] ++ lb, X, ?enter, ?res, ?leads, ?inv, fun _ => h1, ?call⟩
  case enter =>
    rw [eX, eR, eD]
    exact run_enterLoop_outer _ _ _ _ _
  case res =>
    simp only [resolve, hg]
    simp [go_sem]
  case leads =>
    intro f' hf'
    simp [Target.leads] at hf'
    subst hf'
    exact hFg
  case inv => simp [invoke, go_sem, eg]
  case call =>
    have grow : ∀ {A B : World}, Gr (fun k => X.heap.size ≤ k) A B → Gr (fun k => w.heap.size ≤ k) A B := fun h => h.mono fun k hk => by omega
    have oJ : Lasts X.heap.size (fun pre W fpx => ∃ fp, fpx = (fun k => fp k ∨ k = D ∨ k = D + 1) ∧ I pre W fp ∧ ¬ fp D ∧ ¬ fp (D + 1) ∧ W.heap[D + 1]? = some (.loop (R .ready none)) ∧ W.heap[D]? = some (.deferred (some []))) := by
      rintro pre A B fpx ⟨fp, rfl, h2, h3, h4, h5, h6⟩ hg' hs
      exact ⟨fp, rfl, hI _ _ _ _ h2 (grow hg') (fun k hk => hs k (.inl hk)), h3, h4, (hs _ (.inr (.inr rfl))).trans h5, (hs _ (.inr (.inl rfl))).trans h6⟩
    have oK : Lasts X.heap.size (fun pre W fpx => ∃ fp c, fpx = (fun k => fp k ∨ k = D ∨ k = D + 1) ∧ Ix c pre W fp ∧ ¬ fp D ∧ ¬ fp (D + 1) ∧ W.heap[D + 1]? = some (.loop (R .done (some c))) ∧ W.heap[D]? = some (.deferred (some []))) := by
      rintro pre A B fpx ⟨fp, c, rfl, h2, h3, h4, h5, h6⟩ hg' hs
      exact ⟨fp, c, rfl, hIx c _ _ _ _ h2 (grow hg') (fun k hk => hs k (.inl hk)), h3, h4, (hs _ (.inr (.inr rfl))).trans h5, (hs _ (.inr (.inl rfl))).trans h6⟩
    refine (hseq (D + 1) _ _ _ X bX oJ oK ?foot ?round ⟨fp0, rfl, iX, f0.1, f0.2, lX, dX⟩).mono ?behind
    case foot =>
      rintro pre V fpx ⟨fp, rfl, h2, -, -, h5, h6⟩ k (hk | rfl | rfl)
      · exact hfp _ _ _ h2 k hk
      · exact ⟨(Array.getElem?_eq_some_iff.1 h6).1, fun ho => by have := hown _ ho; omega⟩
      · exact ⟨(Array.getElem?_eq_some_iff.1 h5).1, fun ho => by have := hown _ ho; omega⟩
    case round =>
      rintro pre x W fpx ⟨fp, rfl, hi, nD, nE, hl, hd⟩ hlen
      have hlt : D + 1 < W.heap.size := (Array.getElem?_eq_some_iff.1 hl).1
      have hy := run_yield (P := P) (args := encs x) hl (by rw [eR]; exact hps x)
      rw [eR] at hy
      refine ⟨fn, _, assign, body, hy, roundIn_of_wpIn hfn (hassign _ x W _ ⟨_, run_beginRound hl (by rw [eR]), ?_⟩)⟩
      obtain ⟨V, eV⟩ : ∃ V, V = W.putObj (D + 1) (.loop { R .ready none with state := .busy }) := ⟨_, rfl⟩
      have lV : V.heap[D + 1]? = some (.loop { R .ready none with state := .busy }) := by rw [eV]; exact World.putObj_heap_same hlt
      have dV : V.heap[D]? = some (.deferred (some [])) := by rw [eV]; exact (World.putObj_heap_other (by omega)).trans hd
      have gV : Gr (fun k => k = D + 1) W V := by rw [eV]; exact gr_put _ rfl
      have iV : I pre V fp := hI _ _ _ _ hi (gV.mono fun k hk => by omega) fun k hk => by rw [eV]; exact World.putObj_heap_other fun e => nE (by rw [← e]; exact hk)
      have sV : V.heap.size = W.heap.size := by rw [eV]; simp [World.putObj]
      rw [← eV]
      refine wpIn_mono (hbody _ pre x V fp iV hlen) ?_
      have tail : ∀ (jump : Option Code) (Z : World) (fp' : Nat → Prop), Gr fp V Z → Grew V fp fp' → ∃ Y, (Instr.endRound (D + 1) jump).run P Z = .ok (.bool jump.isNone) Y ∧ Gr (fun k => fp k ∨ k = D ∨ k = D + 1) W Y ∧ Grew W (fun k => fp k ∨ k = D ∨ k = D + 1) (fun k => fp' k ∨ k = D ∨ k = D + 1) ∧ ¬ fp' D ∧ ¬ fp' (D + 1) ∧ Y.heap[D + 1]? = some (.loop (R (if jump.isNone then .ready else .done) jump)) ∧ Y.heap[D]? = some (.deferred (some [])) ∧
          (∀ {J : List α → World → (Nat → Prop) → Prop} {q : List α}, Lasts w.heap.size J → J q Z fp' → J q Y fp') := fun jump Z fp' hZ hG => by
        have lZ := (hZ.block (D + 1) (by omega) nE).trans lV
        have dZ := (hZ.block D (by omega) nD).trans dV
        have zlt : D + 1 < Z.heap.size := (Array.getElem?_eq_some_iff.1 lZ).1
        have nD' : ¬ fp' D := fun h => (hG D h).elim nD fun h => by omega
        have nE' : ¬ fp' (D + 1) := fun h => (hG (D + 1) h).elim nE fun h => by omega
        have hr := run_endRound (P := P) jump lZ
        rw [eR] at hr
        refine ⟨Z.putObj (D + 1) (.loop (R (if jump.isNone then .ready else .done) jump)), ?_, ?_, ?_, nD', nE', World.putObj_heap_same zlt, (World.putObj_heap_other (by omega)).trans dZ, fun hJ hj => hJ _ _ _ _ hj (gr_put _ (show w.heap.size ≤ D + 1 by omega)) fun k hk => World.putObj_heap_other fun e => nE' (by rw [← e]; exact hk)⟩
        · rw [eR]
          exact hr
        · exact ((gV.mono fun k hk => .inr (.inr hk)).trans (hZ.mono fun k hk => .inl hk)).trans (gr_put _ (.inr (.inr rfl)))
        · rintro k (hk | hk)
          · rcases hG k hk with h | h
            · exact .inl (.inl h)
            · exact .inr (by omega)
          · exact .inl (.inr hk)
      rintro e b Z hp
      cases e with
      | normal =>
        obtain ⟨fp', p1, p2, p3⟩ := hp
        obtain ⟨Y, hr, gY, gr, n1, n2, lY, dY, keep⟩ := tail none Z fp' p1 p2
        exact ⟨_, _, hr, _, gY, gr, .inl ⟨rfl, fp', rfl, keep hI p3, n1, n2, lY, dY⟩⟩
      | ret =>
        obtain ⟨fp', p1, p2, p3⟩ := hp
        obtain ⟨Y, hr, gY, gr, n1, n2, lY, dY, keep⟩ := tail (some .ret) Z fp' p1 p2
        exact ⟨_, _, hr, _, gY, gr, .inr ⟨rfl, fp', .ret, rfl, keep (hIx _) p3, n1, n2, lY, dY⟩⟩
      | exit id =>
        obtain ⟨fp', p1, p2, p3⟩ := hp
        obtain ⟨Y, hr, gY, gr, n1, n2, lY, dY, keep⟩ := tail (some (.exit id)) Z fp' p1 p2
        exact ⟨_, _, hr, _, gY, gr, .inr ⟨rfl, fp', .exit id, rfl, keep (hIx _) p3, n1, n2, lY, dY⟩⟩
      | goto t =>
        obtain ⟨fp', p1, p2, p3⟩ := hp
        obtain ⟨Y, hr, gY, gr, n1, n2, lY, dY, keep⟩ := tail (some (.goto t)) Z fp' p1 p2
        exact ⟨_, _, hr, _, gY, gr, .inr ⟨rfl, fp', .goto t, rfl, keep (hIx _) p3, n1, n2, lY, dY⟩⟩
      | panic ch => exact hp.elim
      | outgrown => exact hp.elim
    case behind =>
      rintro e W2 ⟨⟨v, rfl⟩, ⟨xs, fpx, hS, fp, rfl, hi, nD, nE, hl, hd⟩ | ⟨pre, fpx, hSp, fp, c, rfl, hi, nD, nE, hl, hd⟩⟩
      · have hr := run_endLoop (P := P) hl (by rw [eR]; simp)
        rw [eR] at hr
        exact ⟨none, _, hr, hdone D xs _ fp (by omega) hS (hI _ _ _ _ hi (gr_put _ (show w.heap.size ≤ D + 1 by omega)) fun k hk => World.putObj_heap_other fun e => nE (by rw [← e]; exact hk)) ((World.putObj_heap_other (by omega)).trans hd) nD⟩
      · have hr := run_endLoop (P := P) hl (by rw [eR]; simp)
        rw [eR] at hr
        exact ⟨some c, _, hr, hstop D c pre _ fp (by omega) hSp (hIx c _ _ _ _ hi (gr_put _ (show w.heap.size ≤ D + 1 by omega)) fun k hk => World.putObj_heap_other fun e => nE (by rw [← e]; exact hk)) ((World.putObj_heap_other (by omega)).trans hd) nD⟩
end Go.Proofs.YtckjjfkfapfdaaaGreat
