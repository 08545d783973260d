/- A region that draws its order, in the round of a range over a function: all its operations but the last only read (calls among them leave the world as it was, but for draws), and the last one waits for all others: one walk in the order of the text serves every order. Our own, over the library's theorem on regions that only read. Conditions: no guards, no defer. A region that draws its order: its first operations keep the world within a class in which each yields one value, and the others wait for all ahead of them: one walk in the order of the text serves every order. Our own, over the library's theorems on regions that only read and on operations that wait. Conditions: no guards among the first ones. A region that draws its order: its first operations in any order that is left to them, a condition on the world kept behind each, and the others, which wait for all ahead of them, behind. Our own, over the library's theorems on orders. Conditions: no guards among the first ones. How package textin reads the words of a verb that stores. Conditions: none. How package textin reads the words behind a first one. Conditions: at most 5000 words. -/
import Derived.Sort.BigQuietIn
import Derived.StillTail
import Derived.Test.YtfcmnkhfmofioaaDoorG05Joined
import Derived.Deep.Quiet
import Derived.Shelf.SlSortCmp.QuietGrown
import Derived.OrdersHeld
import Derived.Deep.MidRow
import Derived.Great.BuildSlice
namespace Go.Proofs.YtfcmnkhfmofioaaDoor
open Go.RowKit Go.Shelf

variable {F : Fence} {n : Nat} {P : Program}

/-- An operation that is no defer goes in a round as anywhere. -/
theorem oper_round {o : Oper} {a : Act} {w : World} {K : Act → World → Prop} {Q : Exit → Act → World → Prop} (l : Nat) (hro : F.round = none) (hd : ∀ c, o.op ≠ .defer c) (h : o.wpIn F n P a w K Q) : o.wpIn (F.inRound l) n P a w K Q := by
  unfold Oper.wpIn at h ⊢
  refine ⟨h.1, ?_⟩
  have h2 := h.2
  rw [hro, Oper.semAt_none] at h2
  rw [Fence.inRound_round, Oper.semAt_some l _ _ hd]
  exact h2

theorem push_getD {L : Array Bool} {i : Nat} (d : Bool) (h : i < L.size) : (L.push false).getD i d = L.getD i d := by
  simp [Array.getD, h, Nat.lt_succ_of_lt h, Array.getElem_push_lt h]
theorem push_set {L : Array Bool} {i : Nat} (h : i < L.size) : (L.push false).setIfInBounds i true = (L.setIfInBounds i true).push false := by
  apply Array.ext_getElem?
  intro j
  rw [Array.getElem?_setIfInBounds, Array.getElem?_push, Array.getElem?_push, Array.getElem?_setIfInBounds]
  simp only [Array.size_setIfInBounds, Array.size_push]
  by_cases hij : i = j
  · subst hij
    rw [if_pos rfl, if_pos (by omega), if_neg (by omega), if_pos rfl, if_pos h]
  · rw [if_neg hij, if_neg hij]
theorem getD_two {L : Array Bool} {i : Nat} (h : i < L.size) : L.getD i true = L.getD i false := by
  simp [Array.getD, h]

/-- What is asked of the region's text. -/
structure TailOk (H : Array Oper) (st : Oper) : Prop where
  select : Region.noSelect H = true
  lex : Region.lexFrom .any H H.size 0 (Array.replicate H.size false) = true
  low : ∀ (i : Nat) (o : Oper), H[i]? = some o → ∀ e ∈ o.after, e.on < i
  guard : ∀ (i : Nat) (o : Oper), H[i]? = some o → o.guard = none
  plain : ∀ (i : Nat) (o : Oper), H[i]? = some o → ∀ c, o.op ≠ .defer c
  stLow : ∀ e ∈ st.after, e.on < H.size
  stGuard : st.guard = none
  sink : Region.sinkB .any (H.push st) H.size = true

def isDefer : Op → Bool
  | .defer _ => true
  | _ => false
def tailB (H : Array Oper) (st : Oper) : Bool :=
  Region.noSelect H && Region.lexFrom .any H H.size 0 (Array.replicate H.size false) && ((List.range H.size).all fun i => match H[i]? with
    | some o => (o.after.all fun e => decide (e.on < i)) && o.guard.isNone && !isDefer o.op
    | none => true) && (st.after.all fun e => decide (e.on < H.size)) && st.guard.isNone && Region.sinkB .any (H.push st) H.size
theorem tailOk_of {H : Array Oper} {st : Oper} (h : tailB H st = true) : TailOk H st := by
  simp only [tailB, Bool.and_eq_true] at h
  obtain ⟨⟨⟨⟨⟨h1, h2⟩, h3⟩, h4⟩, h5⟩, h6⟩ := h
  have one : ∀ (i : Nat) (o : Oper), H[i]? = some o → ((o.after.all fun e => decide (e.on < i)) = true ∧ o.guard.isNone = true) ∧ isDefer o.op = false := fun i o ho => by
    have := List.all_eq_true.1 h3 i (List.mem_range.2 (Array.getElem?_eq_some_iff.1 ho).1)
    simp only [ho, Bool.and_eq_true, Bool.not_eq_true'] at this
    exact this
  refine ⟨h1, h2, fun i o ho e he => ?_, fun i o ho => ?_, fun i o ho c hc => ?_, fun e he => ?_, ?_, h6⟩
  · exact of_decide_eq_true (Array.all_eq_true_iff_forall_mem.1 (one i o ho).1.1 e he)
  · exact Option.isNone_iff_eq_none.1 (one i o ho).1.2
  · have := (one i o ho).2
    rw [hc] at this
    cases this
  · exact of_decide_eq_true (Array.all_eq_true_iff_forall_mem.1 h4 e he)
  · exact Option.isNone_iff_eq_none.1 h5

theorem all_listed {H : Array Oper} {L : Array Bool} (hs : L.size = H.size) (low : ∀ (i : Nat) (o : Oper), H[i]? = some o → ∀ e ∈ o.after, e.on < i) (hr : Region.ready .any H L = []) : ∀ i, i < H.size → L.getD i true = true := by
  intro i
  induction i using Nat.strongRecOn with
  | _ i ih =>
    intro hi
    cases hl : L.getD i true with
    | true => rfl
    | false =>
      have : i ∈ Region.ready .any H L := mem_ready.2 ⟨hl, H[i], Array.getElem?_eq_getElem hi, fun e he _ => by
        have h1 := low i _ (Array.getElem?_eq_getElem hi) e he
        rw [← getD_two (by omega)]
        exact ih e.on h1 (by omega)⟩
      rw [hr] at this
      cases this

theorem tail_last {H : Array Oper} {st : Oper} (ok : TailOk H st) (l : Nat) {C : World → Prop} {Qh : Act → Prop} {Q : Exit → Act → World → Prop}
    (hst : ∀ a w, C w → Qh a → st.wpIn (F.inRound l) n P a w (fun a' w' => Q .normal a' w') Q) {L : Array Bool} {a : Act} {w : World} {fuel : Nat} (hs : L.size = H.size) (hC : C w) (hr : Region.ready .any H L = []) (hq : Qh a) : wpAnyIn (F.inRound l) n P .any (H.push st) Q (fuel + 1) (L.push false) a w := by
  have hall := all_listed hs ok.low hr
  have hlast : (L.push false).getD H.size true = false := by
    rw [← hs]
    simp [Array.getD]
  have hstm : (H.push st)[H.size]? = some st := Array.getElem?_push_size
  have hmem : H.size ∈ Region.ready .any (H.push st) (L.push false) := mem_ready.2 ⟨hlast, st, hstm, fun e he _ => by
    have := ok.stLow e he
    rw [push_getD _ (by omega), ← getD_two (by omega)]
    exact hall _ this⟩
  refine ⟨fun h0 => ?_, fun i hi => ?_⟩
  · rw [h0] at hmem
    cases hmem
  · have hi' : i = H.size := by
      obtain ⟨u, o, ho, _⟩ := mem_ready.1 hi
      have h1 := (Array.getElem?_eq_some_iff.1 ho).1
      rw [Array.size_push] at h1
      rcases Nat.lt_or_ge i H.size with h2 | h2
      · rw [push_getD _ (by omega), hall i h2] at u
        cases u
      · omega
    subst hi'
    have hw : ∀ y, Region.wanted st y = true := fun y => by simp [Region.wanted, ok.stGuard]
    unfold wpOpIn
    simp only [hstm, hw, if_true]
    refine Oper.wpIn_mono ?_ (hst a w hC hq)
    intro a' w' hQ
    have hend : Region.ready .any (H.push st) ((L.push false).setIfInBounds H.size true) = [] := by
      apply List.eq_nil_iff_forall_not_mem.2
      intro j hj
      obtain ⟨u, o, ho, _⟩ := mem_ready.1 hj
      have h1 := (Array.getElem?_eq_some_iff.1 ho).1
      rw [Array.size_push] at h1
      by_cases hjm : H.size = j
      · subst hjm
        rw [← hs] at u
        simp [Array.getD] at u
      · rw [getD_set_ne true hjm, push_getD _ (by omega), hall j (by omega)] at u
        cases u
    cases fuel with
    | zero => exact ⟨hend, hQ⟩
    | succ k => exact ⟨fun _ => hQ, fun i hi => by rw [hend] at hi; cases hi⟩

theorem tail_bridge {H : Array Oper} {st : Oper} (ok : TailOk H st) (l : Nat) (hro : F.round = none) {C : World → Prop} {Qh : Act → Prop} {Q : Exit → Act → World → Prop}
    (hst : ∀ a w, C w → Qh a → st.wpIn (F.inRound l) n P a w (fun a' w' => Q .normal a' w') Q) :
    ∀ (fuel : Nat) (L : Array Bool) (a : Act) (w : World), L.size = H.size → HeadInv .any (H.push st) H.size (L.push false) → C w → wpAnyQIn F n P .any H C Qh fuel L a →
      wpAnyIn (F.inRound l) n P .any (H.push st) Q (fuel + 1) (L.push false) a w := by
  intro fuel
  induction fuel with
  | zero =>
    intro L a w hs inv hC h
    exact tail_last ok l hst hs hC h.1 h.2
  | succ fuel ih =>
    intro L a w hs inv hC h
    by_cases hr : Region.ready .any H L = []
    · exact tail_last ok l hst hs hC hr (h.1 hr)
    · obtain ⟨i0, hi0⟩ := List.exists_mem_of_ne_nil _ hr
      obtain ⟨u0, o0, ho0, _⟩ := mem_ready.1 hi0
      have lt0 : i0 < H.size := (Array.getElem?_eq_some_iff.1 ho0).1
      have hno := tail_waits ok.sink (by simp [Region.chainB]; omega) (by simp) inv _ i0 rfl lt0 (by rw [push_getD _ (by omega)]; exact u0)
      refine ⟨fun h0 => ?_, fun i hi => ?_⟩
      · have : i0 ∈ Region.ready .any (H.push st) (L.push false) := by
          obtain ⟨_, o, ho, hall⟩ := mem_ready.1 hi0
          refine mem_ready.2 ⟨by rw [push_getD _ (by omega)]; exact u0, o, by rw [Array.getElem?_push_lt lt0]; rw [Array.getElem?_eq_getElem lt0] at ho; exact ho, fun e he hb => ?_⟩
          have hlo := ok.low i0 o ho e he
          rw [push_getD _ (by omega)]
          exact hall e he hb
        rw [h0] at this
        cases this
      · have hlt : i < H.size := by
          rcases Nat.lt_or_ge i H.size with h1 | h1
          · exact h1
          · exact (hno i h1 hi).elim
        have hiH : i ∈ Region.ready .any H L := by
          obtain ⟨u, o, ho, hall⟩ := mem_ready.1 hi
          rw [push_getD _ (by omega)] at u
          rw [Array.getElem?_push_lt hlt] at ho
          have ho' : H[i]? = some o := by rw [Array.getElem?_eq_getElem hlt]; exact ho
          refine mem_ready.2 ⟨u, o, ho', fun e he hb => ?_⟩
          have := hall e he hb
          have hlo := ok.low i o ho' e he
          rwa [push_getD _ (by omega)] at this
        have hq := h.2 i hiH
        have inv' := inv.set hi hlt
        rw [push_set (by omega)] at inv'
        have ho' : H[i]? = some H[i] := Array.getElem?_eq_getElem hlt
        have hog : (H.push st)[i]? = some H[i] := Array.getElem?_push_lt hlt
        have hg : H[i].guard = none := ok.guard i _ ho'
        have hw : ∀ y, Region.wanted H[i] y = true := fun y => by simp [Region.wanted, hg]
        unfold qOpIn at hq
        simp only [ho', hw, if_true] at hq
        unfold wpOpIn
        simp only [hog, hw, if_true]
        refine oper_round l hro (ok.plain i _ ho') (Oper.wpIn_of_quiet hro hC ?_ hq.1 hq.2)
        intro a' w' hC' hk
        rw [push_set (by omega)]
        exact ih _ a' w' (by simp [hs]) inv' hC' hk
/-- One walk in the order of the text, and the last operation behind it. -/
theorem region_tail {id : Nat} {Q : Exit → Act → World → Prop} {a : Act} {w : World} {ops : List Oper} (m : Nat) (st : Oper) (l : Nat) (hst : ops = ops.take m ++ [st]) (hro : F.round = none) (hm : P.follows .mixedOrders = true) (hB : tailB (ops.take m).toArray st = true)
    (h : wpQuietIn F n P (ops.take m).toArray (fun w' => ∃ k, w' = w.drewN k) (fun a' => ∀ w', (∃ k, w' = w.drewN k) → st.wpIn (F.inRound l) n P a' w' (fun a'' w'' => Q .normal a'' w'') Q) (ops.take m) a) :
    (Code.region id ops.toArray true).wpIn (F.inRound l) n P Q a w := by
  have ok := tailOk_of hB
  generalize ops.take m = hd at *
  subst hst
  have e : (hd ++ [st]).toArray = hd.toArray.push st := by simp
  have e2 : (hd.toArray.push st).size = hd.length + 1 := by simp
  have e3 : Array.replicate (hd.length + 1) false = (Array.replicate hd.length false).push false := Array.replicate_succ
  rw [e]
  refine wpIn_region_any hm ?_
  rw [e2, e3]
  refine tail_bridge ok l hro (C := fun w' => ∃ k, w' = w.drewN k) (Qh := fun a' => ∀ w', (∃ k, w' = w.drewN k) → st.wpIn (F.inRound l) n P a' w' (fun a'' w'' => Q .normal a'' w'') Q) (fun a w hC hq => hq w hC) hd.length _ a _ (by simp) ?_ ⟨1, rfl⟩ ?_
  · refine ⟨by simp, fun j oj _ hl => ?_, fun t ht ht' => ?_⟩
    · rw [← e3, getD_replicate_false] at hl
      cases hl
    · have : t = hd.length := by
        simp at ht ht'
        omega
      subst this
      rw [← e3]
      simp [Array.getD]
  · have := wpAnyQIn_lex (F := F) (n := n) (P := P) (C := fun w' => ∃ k, w' = w.drewN k) (md := .any) ok.select hd 0 (Array.replicate hd.length false) a (by simp) (by simpa using ok.lex) h
    exact this
end Go.Proofs.YtfcmnkhfmofioaaDoor

namespace Go.Proofs.YtfcmnkhfmofioaaDoor
open Go.RowKit Go.Shelf Go.Sort

variable {P : Program}
theorem app_getD {L F : Array Bool} {i : Nat} (d : Bool) (h : i < L.size) : (L ++ F).getD i d = L.getD i d := by
  simp [Array.getD, h, Nat.lt_of_lt_of_le h (Nat.le_add_right _ _), Array.getElem_append_left h]
theorem app_set {L F : Array Bool} {i : Nat} (h : i < L.size) : (L ++ F).setIfInBounds i true = (L.setIfInBounds i true) ++ F := by
  apply Array.ext_getElem?
  intro j
  rw [Array.getElem?_setIfInBounds, Array.getElem?_append, Array.getElem?_append, Array.getElem?_setIfInBounds]
  simp only [Array.size_setIfInBounds, Array.size_append]
  by_cases hij : i = j
  · subst hij
    rw [if_pos rfl, if_pos (by omega), if_pos h, if_pos rfl, if_pos h]
  · rw [if_neg hij, if_neg hij]
theorem wpAny_more {md : Region.Mode} {ops : Array Oper} {Q : Exit → Act → World → Prop} : ∀ (k : Nat) (listed : Array Bool) (a : Act) (w : World), wpAny P md ops Q k listed a w → wpAny P md ops Q (k + 1) listed a w
  | 0, _, _, _, h => ⟨fun _ => h.2, fun i hi => by rw [h.1] at hi; cases hi⟩
  | k + 1, _, _, _, h => ⟨h.1, fun i hi => wpOp_mono (fun a' w' h' => wpAny_more k _ a' w' h') (h.2 i hi)⟩
theorem wpAny_fuel {md : Region.Mode} {ops : Array Oper} {Q : Exit → Act → World → Prop} (m : Nat) : ∀ (k : Nat) (listed : Array Bool) (a : Act) (w : World), wpAny P md ops Q m listed a w → wpAny P md ops Q (k + m) listed a w
  | 0, _, _, _, h => by rw [Nat.zero_add]; exact h
  | k + 1, listed, a, w, h => by rw [show k + 1 + m = k + m + 1 by omega]; exact wpAny_more _ _ _ _ (wpAny_fuel m k listed a w h)
/-- What is asked of the region's text. -/
structure CTailOk (H ops : Array Oper) (n m : Nat) : Prop where
  select : Region.noSelect H = true
  lex : Region.lexFrom .any H H.size 0 (Array.replicate H.size false) = true
  low : ∀ (i : Nat) (o : Oper), H[i]? = some o → ∀ e ∈ o.after, e.on < i
  guard : ∀ (i : Nat) (o : Oper), H[i]? = some o → o.guard = none
  sink : Region.sinkB .any ops n = true
  chain : Region.chainB .any ops n = true
  seq : Region.seqB .any ops m n (Array.replicate n true ++ Array.replicate m false) = true
def ctailB (H ops : Array Oper) (n m : Nat) : Bool :=
  Region.noSelect H && Region.lexFrom .any H H.size 0 (Array.replicate H.size false) && ((List.range H.size).all fun i => match H[i]? with
    | some o => (o.after.all fun e => decide (e.on < i)) && o.guard.isNone
    | none => true) && Region.sinkB .any ops n && Region.chainB .any ops n && Region.seqB .any ops m n (Array.replicate n true ++ Array.replicate m false)
theorem ctailOk_of {H ops : Array Oper} {n m : Nat} (h : ctailB H ops n m = true) : CTailOk H ops n m := by
  simp only [ctailB, Bool.and_eq_true] at h
  obtain ⟨⟨⟨⟨⟨h1, h2⟩, h3⟩, h4⟩, h5⟩, h6⟩ := h
  have one : ∀ (i : Nat) (o : Oper), H[i]? = some o → (o.after.all fun e => decide (e.on < i)) = true ∧ o.guard.isNone = true := fun i o ho => by
    have := List.all_eq_true.1 h3 i (List.mem_range.2 (Array.getElem?_eq_some_iff.1 ho).1)
    simp only [ho, Bool.and_eq_true] at this
    exact this
  exact ⟨h1, h2, fun i o ho e he => of_decide_eq_true (Array.all_eq_true_iff_forall_mem.1 (one i o ho).1 e he), fun i o ho => Option.isNone_iff_eq_none.1 (one i o ho).2, h4, h5, h6⟩
theorem ct_done {H ops : Array Oper} {n m : Nat} (ok : CTailOk H ops n m) (hn : H.size = n) {l : List Oper} (hl : l.length = m) (hat : ∀ j, l[j]? = ops[n + j]?) {Q : Exit → Act → World → Prop} {L : Array Bool} {a : Act} {w : World} (hs : L.size = H.size) (hr : Region.ready .any H L = []) (h : wpList P ops Q l a w) : wpAny P .any ops Q m (L ++ Array.replicate m false) a w := by
  have hall := all_listed hs ok.low hr
  have hL : L = Array.replicate n true := by
    apply Array.ext
    · simp [hs, hn]
    · intro i h1 h2
      have := hall i (by omega)
      simp [Array.getD, h1] at this
      simp [this]
  have hq := ok.seq
  rw [← hl] at hq ⊢
  rw [hL]
  exact wpAny_of_seq l n _ a w hat hq h
theorem ct_bridge {H ops : Array Oper} {n m : Nat} (ok : CTailOk H ops n m) (hn : H.size = n) (hm : 0 < m) (hsz : ops.size = n + m) (hhd : ∀ i, i < n → ops[i]? = H[i]?) {l : List Oper} (hl : l.length = m) (hat : ∀ j, l[j]? = ops[n + j]?) {C : World → Prop} {Q : Exit → Act → World → Prop} :
    ∀ (fuel : Nat) (L : Array Bool) (a : Act) (w : World), L.size = H.size → HeadInv .any ops n (L ++ Array.replicate m false) → C w → wpAnyQ P .any H C (fun a' => ∀ w', C w' → wpList P ops Q l a' w') fuel L a →
      wpAny P .any ops Q (fuel + m) (L ++ Array.replicate m false) a w := by
  intro fuel
  induction fuel with
  | zero =>
    intro L a w hs inv hC h
    rw [Nat.zero_add]
    exact ct_done ok hn hl hat hs h.1 (h.2 w hC)
  | succ fuel ih =>
    intro L a w hs inv hC h
    by_cases hr : Region.ready .any H L = []
    · exact wpAny_fuel m _ _ _ _ (ct_done ok hn hl hat hs hr (h.1 hr w hC))
    · obtain ⟨i0, hi0⟩ := List.exists_mem_of_ne_nil _ hr
      obtain ⟨u0, o0, ho0, hw0⟩ := mem_ready.1 hi0
      have lt0 : i0 < H.size := (Array.getElem?_eq_some_iff.1 ho0).1
      have hno := tail_waits ok.sink ok.chain (by omega) inv _ i0 rfl (by omega) (by rw [app_getD _ (by omega)]; exact u0)
      rw [show fuel + 1 + m = fuel + m + 1 by omega]
      refine ⟨fun h0 => ?_, fun i hi => ?_⟩
      · have : i0 ∈ Region.ready .any ops (L ++ Array.replicate m false) := by
          refine mem_ready.2 ⟨by rw [app_getD _ (by omega)]; exact u0, o0, by rw [hhd i0 (by omega)]; exact ho0, fun e he hb => ?_⟩
          have hlo := ok.low i0 o0 ho0 e he
          rw [app_getD _ (by omega)]
          exact hw0 e he hb
        rw [h0] at this
        cases this
      · have hlt : i < n := by
          rcases Nat.lt_or_ge i n with h1 | h1
          · exact h1
          · exact (hno i h1 hi).elim
        obtain ⟨u, o, ho, hw⟩ := mem_ready.1 hi
        rw [app_getD _ (by omega)] at u
        have ho' : H[i]? = some o := by rw [← hhd i hlt]; exact ho
        have hiH : i ∈ Region.ready .any H L := by
          refine mem_ready.2 ⟨u, o, ho', fun e he hb => ?_⟩
          have := hw e he hb
          have hlo := ok.low i o ho' e he
          rwa [app_getD _ (by omega)] at this
        have hq := h.2 i hiH
        have inv' := inv.set hi hlt
        rw [app_set (by omega)] at inv'
        have hg : o.guard = none := ok.guard i o ho'
        have hwt : ∀ y, Region.wanted o y = true := fun y => by simp [Region.wanted, hg]
        unfold qOp at hq
        simp only [ho', hwt, if_true] at hq
        unfold wpOp
        simp only [ho, hwt, if_true]
        refine .inl (Oper.wp_of_quiet hC (fun a' w' hC' hk => ?_) hq)
        rw [app_set (by omega)]
        exact ih _ a' w' (by simp [hs]) inv' hC' hk
/-- One walk in the order of the text; the last ones behind it. -/
theorem region_ctail {C : World → Prop} {id : Nat} {Q : Exit → Act → World → Prop} {a : Act} {w : World} {l : List Oper} (n : Nat) (hm : P.follows .mixedOrders = true) (hn : n < l.length) (hB : ctailB (l.take n).toArray l.toArray n (l.length - n) = true) (hC : C w.drew)
    (h : wpQuiet P (l.take n).toArray C (fun a' => ∀ w', C w' → wpList P l.toArray Q (l.drop n) a' w') (l.take n) a) : (Code.region id l.toArray true).wp P Q a w := by
  have ok := ctailOk_of hB
  have h1 : (l.take n).toArray.size = n := by simp; omega
  refine wp_region_any hm ?_
  have hq := wpAnyQ_lex (P := P) (C := C) (md := .any) ok.select (l.take n) 0 (Array.replicate (l.take n).length false) a (by simp) (by simpa using ok.lex) h
  have hinv : HeadInv .any l.toArray n (Array.replicate (l.take n).length false ++ Array.replicate (l.length - n) false) := by
    refine ⟨by simp; omega, fun j oj _ hl => ?_, fun t ht ht' => ?_⟩
    · have : ∀ (p q j : Nat), (Array.replicate p false ++ Array.replicate q false).getD j false = false := fun p q j => by
        rw [Array.replicate_append_replicate]
        exact getD_replicate_false _ _
      rw [this] at hl
      cases hl
    · have ht2 : t < l.length := by simpa using ht'
      rw [Array.replicate_append_replicate]
      exact getD_in (by simp; omega) (getD_replicate_false _ _)
  have := ct_bridge ok h1 (by omega) (by simp; omega) (fun i hi => by simp [hi]) (l := l.drop n) (by simp) (fun j => by simp) (C := C) (Q := Q) _ _ a w.drew (by simp) hinv hC hq
  rw [Array.replicate_append_replicate] at this
  have e1 : (l.take n).length + (l.length - n) = l.toArray.size := by simp; omega
  rw [e1] at this
  exact this
/-- The first ones draw alone. -/
theorem region_dtail {id : Nat} {Q : Exit → Act → World → Prop} {a : Act} {w : World} {l : List Oper} (n : Nat) (hm : P.follows .mixedOrders = true) (hn : n < l.length) (hB : ctailB (l.take n).toArray l.toArray n (l.length - n) = true)
    (h : wpQuiet P (l.take n).toArray (fun w' => ∃ k, w' = w.drewN k) (fun a' => ∀ w', (∃ k, w' = w.drewN k) → wpList P l.toArray Q (l.drop n) a' w') (l.take n) a) : (Code.region id l.toArray true).wp P Q a w :=
  region_ctail (C := fun w' => ∃ k, w' = w.drewN k) n hm hn hB ⟨1, rfl⟩ h
/-- The first ones draw, and lay new blocks. -/
theorem region_gtail {id : Nat} {Q : Exit → Act → World → Prop} {a : Act} {w : World} {l : List Oper} (n : Nat) (hm : P.follows .mixedOrders = true) (hn : n < l.length) (hB : ctailB (l.take n).toArray l.toArray n (l.length - n) = true)
    (h : wpQuiet P (l.take n).toArray (fun w' => ∃ p : GrownBy, w' = grow (w.drewN p.n) p.os) (fun a' => ∀ w', (∃ p : GrownBy, w' = grow (w.drewN p.n) p.os) → wpList P l.toArray Q (l.drop n) a' w') (l.take n) a) : (Code.region id l.toArray true).wp P Q a w :=
  region_ctail (C := fun w' => ∃ p : GrownBy, w' = grow (w.drewN p.n) p.os) n hm hn hB ⟨⟨1, #[]⟩, by rw [grow_empty]; rfl⟩ h
end Go.Proofs.YtfcmnkhfmofioaaDoor

namespace Go.Proofs.YtfcmnkhfmofioaaDoor
open Go.RowKit Go.Shelf Go.Sort

variable {P : Program}
/-- Behind the first operations the others are walked. -/
abbrev HeadQ (P : Program) (ops : Array Oper) (Q : Exit → Act → World → Prop) (l : List Oper) : Exit → Act → World → Prop := Exit.then (wpList P ops Q l) Q
theorem head_out {ops : Array Oper} {Q : Exit → Act → World → Prop} {l : List Oper} : LetsOut (HeadQ P ops Q l) → LetsOut Q := fun ⟨a, w, h⟩ => ⟨a, w, h⟩
theorem ht_op {o : Oper} {a : Act} {w : World} {ops : Array Oper} {Q : Exit → Act → World → Prop} {l : List Oper} {K K' : Act → World → Prop} (hl : LetsOut (HeadQ P ops Q l) → LetsOut Q) (hK : ∀ a w, K a w → K' a w) (h : o.wp P a w K (HeadQ P ops Q l)) : o.wp P a w K' Q := by
  unfold Oper.wp at *
  generalize (execOp a.eval o).run P w = r at *
  cases r with
  | ok n w' =>
    cases n <;> simp only [Oper.upon] at h ⊢ <;>
      first
        | exact hK _ _ h
        | exact Calls.mono h (fun e w'' he => by cases e <;> first | exact hK _ _ he | exact hl he | exact he)
        | exact Rows.mono h (fun _ _ he => hK _ _ he)
  | halt x w' => cases x <;> simp only [Oper.upon] at h ⊢ <;> exact h
theorem ht_bridge {H ops : Array Oper} {n m : Nat} (ok : CTailOk H ops n m) (hn : H.size = n) (hm : 0 < m) (hsz : ops.size = n + m) (hhd : ∀ i, i < n → ops[i]? = H[i]?) {l : List Oper} (hl : l.length = m) (hat : ∀ j, l[j]? = ops[n + j]?) {S : World → Prop} {Q : Exit → Act → World → Prop} (hlo : LetsOut (HeadQ P ops Q l) → LetsOut Q) :
    ∀ (fuel : Nat) (L : Array Bool) (a : Act) (w : World), L.size = H.size → HeadInv .any ops n (L ++ Array.replicate m false) → wpAnyH P .any H (HeadQ P ops Q l) S fuel L a w →
      wpAny P .any ops Q (fuel + m) (L ++ Array.replicate m false) a w := by
  intro fuel
  induction fuel with
  | zero =>
    intro L a w hs inv h
    rw [Nat.zero_add]
    exact ct_done ok hn hl hat hs h.1 h.2
  | succ fuel ih =>
    intro L a w hs inv h
    by_cases hr : Region.ready .any H L = []
    · exact wpAny_fuel m _ _ _ _ (ct_done ok hn hl hat hs hr (h.1 hr))
    · obtain ⟨i0, hi0⟩ := List.exists_mem_of_ne_nil _ hr
      obtain ⟨u0, o0, ho0, hw0⟩ := mem_ready.1 hi0
      have lt0 : i0 < H.size := (Array.getElem?_eq_some_iff.1 ho0).1
      have hno := tail_waits ok.sink ok.chain (by omega) inv _ i0 rfl (by omega) (by rw [app_getD _ (by omega)]; exact u0)
      rw [show fuel + 1 + m = fuel + m + 1 by omega]
      refine ⟨fun h0 => ?_, fun i hi => ?_⟩
      · have : i0 ∈ Region.ready .any ops (L ++ Array.replicate m false) := by
          refine mem_ready.2 ⟨by rw [app_getD _ (by omega)]; exact u0, o0, by rw [hhd i0 (by omega)]; exact ho0, fun e he hb => ?_⟩
          have hlo := ok.low i0 o0 ho0 e he
          rw [app_getD _ (by omega)]
          exact hw0 e he hb
        rw [h0] at this
        cases this
      · have hlt : i < n := by
          rcases Nat.lt_or_ge i n with h1 | h1
          · exact h1
          · exact (hno i h1 hi).elim
        obtain ⟨u, o, ho, hw⟩ := mem_ready.1 hi
        rw [app_getD _ (by omega)] at u
        have ho' : H[i]? = some o := by rw [← hhd i hlt]; exact ho
        have hiH : i ∈ Region.ready .any H L := by
          refine mem_ready.2 ⟨u, o, ho', fun e he hb => ?_⟩
          have := hw e he hb
          have hlo := ok.low i o ho' e he
          rwa [app_getD _ (by omega)] at this
        have hq := h.2 i hiH
        have inv' := inv.set hi hlt
        rw [app_set (by omega)] at inv'
        have hg : o.guard = none := ok.guard i o ho'
        have hwt : ∀ y, Region.wanted o y = true := fun y => by simp [Region.wanted, hg]
        unfold wpOp at hq ⊢
        simp only [ho', hwt, if_true] at hq
        simp only [ho, hwt, if_true]
        refine hq.imp (ht_op hlo fun a' w' hk => ?_) fun h => ⟨h.1, hlo h.2⟩
        rw [app_set (by omega)]
        exact ih _ a' w' (by simp [hs]) inv' hk.2
/-- The first n in any order, S behind each of them; the last ones behind. -/
theorem region_htail {S : World → Prop} {id : Nat} {Q : Exit → Act → World → Prop} {a : Act} {w : World} {l : List Oper} (n : Nat) (hm : P.follows .mixedOrders = true) (hn : n < l.length) (hB : ctailB (l.take n).toArray l.toArray n (l.length - n) = true)
    (h : wpAnyH P .any (l.take n).toArray (HeadQ P l.toArray Q (l.drop n)) S n (Array.replicate n false) a w.drew) : (Code.region id l.toArray true).wp P Q a w := by
  have ok := ctailOk_of hB
  have h1 : (l.take n).toArray.size = n := by simp; omega
  have h2 : (l.take n).length = n := by simp; omega
  refine wp_region_any hm ?_
  have hinv : HeadInv .any l.toArray n (Array.replicate n false ++ Array.replicate (l.length - n) false) := by
    refine ⟨by simp; omega, fun j oj _ hl => ?_, fun t ht ht' => ?_⟩
    · have : ∀ (p q j : Nat), (Array.replicate p false ++ Array.replicate q false).getD j false = false := fun p q j => by
        rw [Array.replicate_append_replicate]
        exact getD_replicate_false _ _
      rw [this] at hl
      cases hl
    · have ht2 : t < l.length := by simpa using ht'
      rw [Array.replicate_append_replicate]
      exact getD_in (by simp; omega) (getD_replicate_false _ _)
  have := ht_bridge ok h1 (by omega) (by simp; omega) (fun i hi => by simp [hi]) (l := l.drop n) (by simp) (fun j => by simp) (S := S) (Q := Q) head_out n _ a w.drew (by simp; omega) hinv h
  rw [Array.replicate_append_replicate] at this
  have e1 : n + (l.length - n) = l.toArray.size := by simp; omega
  rw [e1] at this
  exact this
section
variable {md : Region.Mode} {ops : Array Oper} {Q : Exit → Act → World → Prop} {S : World → Prop}
/-- Number i first: it writes slot d. -/
theorem take_at (i d : Nat) {oi : Oper} {v : Value} {fuel : Nat} {listed : Array Bool} {a : Act} {w : World} (hi : ops[i]? = some oi) (hd : oi.dst = some d)
    (hs : Region.noSelect ops = true) (hf : Region.free md ops listed i = true) (hr : (Region.ready md ops listed).contains i = true)
    (hQ : ∀ c a w, Q (.panic c) (a.put (some d) v) w → Q (.panic c) a w) (hy : YieldsIf P ops S oi v a) (hS : S w)
    (h : wpAnyH P md ops Q S fuel (listed.setIfInBounds i true) (a.put (some d) v) w) : wpAnyH P md ops Q S (fuel + 1) listed a w :=
  wpAnyH_take hi hs hf hr (by rw [hd]; exact hQ) hy hS (by rw [hd]; exact h)
/-- One alone may come up. -/
theorem one_at (i : Nat) {o : Oper} {fuel : Nat} {listed : Array Bool} {a : Act} {w : World} (hr : Region.ready md ops listed = [i]) (ho : ops[i]? = some o) (hg : o.guard = none)
    (h : o.wp P a w (fun a' w' => S w' ∧ wpAnyH P md ops Q S fuel (listed.setIfInBounds i true) a' w') Q) : wpAnyH P md ops Q S (fuel + 1) listed a w := by
  refine wpAnyH_all hr (by simp) fun j hj => ?_
  obtain rfl : j = i := by simpa using hj
  unfold wpOp
  have hwt : ∀ y, Region.wanted o y = true := fun y => by simp [Region.wanted, hg]
  simp only [ho, hwt, if_true]
  exact .inl h
theorem wpOp_plain {i : Nat} {o : Oper} {a : Act} {w : World} {K : Act → World → Prop} (ho : ops[i]? = some o) (hg : o.guard = none) (h : o.wp P a w K Q) : wpOp P ops Q i K a w := by
  unfold wpOp
  have hwt : ∀ y, Region.wanted o y = true := fun y => by simp [Region.wanted, hg]
  simp only [ho, hwt, if_true]
  exact .inl h
/-- A call of a Go function, by its contract. -/
theorem oper_call (d : Nat) {o : Oper} {a : Act} {w : World} {K : Act → World → Prop} {f : FuncId} {args : Array Value} (hd : o.dst = some d) (hx : (execOp a.eval o).run P w = .ok (.enter f args) w) {Post : Ending → World → Prop} (hc : Calls P f args w Post) (h : ∀ e w', Post e w' → ∃ v, e = .returned v ∧ K (a.put (some d) v) w') : o.wp P a w K Q := by
  unfold Oper.wp
  rw [hx]
  refine hc.mono fun e w' he => ?_
  obtain ⟨v, rfl, hk⟩ := h e w' he
  show K (a.put o.dst v) w'
  rw [hd]
  exact hk
/-- An operation that yields a value. -/
theorem oper_value (d : Nat) {o : Oper} {a : Act} {w w' : World} {K : Act → World → Prop} {v : Value} (hd : o.dst = some d) (hx : (execOp a.eval o).run P w = .ok (.value v) w') (h : K (a.put (some d) v) w') : o.wp P a w K Q := by
  unfold Oper.wp
  rw [hx]
  show K (a.put o.dst v) w'
  rw [hd]
  exact h
end
end Go.Proofs.YtfcmnkhfmofioaaDoor

namespace Go.Proofs.YtfcmnkhfmofioaaDoor
set_option linter.unusedVariables false
open Go.RowKit

section
variable {w : World} {n0 D : Nat} {d : Dv} {a va : Option Addr} {c vc : Nat} {t : TypeId}
theorem own_on {n0 n : Nat} {e : TypeId} {w w' : World} {v : Value} {xs : List Value} (h : w.ownsRow n0 e 1 v n xs) (hg : w.grownBy w' none) : w'.ownsRow n0 e 1 v n xs := own_same h fun k hk => hg.block k (own_at h hk).2.1 (by simp)
/-- What parts and storing answer: a new row of readings of these kinds. -/
def PartsEnd (D : Nat) (ks : List Nat) (w : World) (e : Ending) (w' : World) : Prop := ∃ v xs, e = .returned v ∧ w'.ownsRow w.heap.size 86 1 v ks.length xs ∧ RdL w' D ks xs ∧ w.grownBy w' none
set_option maxRecDepth 100000 in
set_option maxHeartbeats 2000000 in
theorem storing_any (hD : w.heap[D]? = some (.cells (drC d a c va vc) t (0, 0))) : Calls Tryd.prog 56 #[.pointer (some ⟨D, 0, none⟩)] w fun e w' => PartsEnd D (if d.verb = vb_cas then [0, 3, 1, 4, 5] else [0, 3, 1, 4]) w e w' := by
  have hlt : D < w.heap.size := (Array.getElem?_eq_some_iff.1 hD).1
  obtain ⟨ks, hks⟩ : ∃ ks, ks = if d.verb = vb_cas then [0, 3, 1, 4, 5] else [0, 3, 1, 4] := ⟨_, rfl⟩
  rw [← hks]
  replace hks := hide hks
  obtain ⟨i0, hi, hz0, hz1, hz2⟩ := info_parts info_rd
  obtain ⟨q, hq⟩ : ∃ q, q = w.heap.size := ⟨_, rfl⟩
  obtain ⟨W, hW⟩ : ∃ W, W = w.alloc (.cells #[.pointer (some ⟨D, 0, none⟩)] 81) := ⟨_, rfl⟩
  have g0 : w.grownBy W none := by rw [hW]; exact World.grownBy_alloc _ _ _
  have hWs : W.heap.size = q + 1 := by rw [hW, hq, World.size_alloc]
  have s0 : W.cell? ⟨q, 0, none⟩ = some (.pointer (some ⟨D, 0, none⟩)) := by rw [hW, hq]; exact (Boxed.new w _ _).cell
  have HD := hide hD
  go_enter Tryd.func56, Tryd.ntmps56
  go_wp2
  rw [← hW, ← hq]
  have N0 : Hid (W = W) := rfl
  have hg1 := hide g0
  have HQ := hide hq
  have hWl : q < W.heap.size := by omega
  clear hD g0
  clear hW hq
  have S0 : W.drew.cell? ⟨q, 0, none⟩ = some (.pointer (some ⟨D, 0, none⟩)) := s0
  have hdl : q < W.drew.heap.size := hWl
  have hg2 : Hid (w.grownBy W.drew none) := gr_trans hg1.out (gr_drew W)
  refine region_htail (S := fun W' => W'.cell? ⟨q, 0, none⟩ = some (.pointer (some ⟨D, 0, none⟩))) 8 (by kernel_rfl) (by simp) (by kernel_rfl) ?_
  simp only [List.take_succ_cons, List.take_zero, List.drop_succ_cons, List.drop_zero]
  clear s0 hWl N0 hg1
  generalize W.drew = W2 at *
  refine take_at 0 4 (v := .pointer (some ⟨D, 0, none⟩)) rfl rfl (by kernel_rfl) (by kernel_rfl) (by kernel_rfl) (fun _ _ _ h => h) (Or.inl ⟨by rfl, fun W hW => by go_simp⟩) S0 ?_
  simp only [Act.put, List.setIfInBounds_toArray, List.set_cons_zero, List.set_cons_succ]
  refine take_at 1 5 (v := .func (.func 57) #[.pointer (some ⟨D, 0, none⟩)] #[]) rfl rfl (by kernel_rfl) (by kernel_rfl) (by kernel_rfl) (fun _ _ _ h => h) (Or.inl ⟨by rfl, fun W hW => by go_simp⟩) S0 ?_
  simp only [Act.put, List.setIfInBounds_toArray, List.set_cons_zero, List.set_cons_succ]
  refine take_at 2 6 (v := .func (.func 62) #[] #[.pointer (some ⟨q, 0, none⟩)]) rfl rfl (by kernel_rfl) (by kernel_rfl) (by kernel_rfl) (fun _ _ _ h => h) (Or.inl ⟨by rfl, fun W hW => by go_simp⟩) S0 ?_
  simp only [Act.put, List.setIfInBounds_toArray, List.set_cons_zero, List.set_cons_succ]
  refine take_at 4 8 (v := .pointer (some ⟨D, 0, none⟩)) rfl rfl (by kernel_rfl) (by kernel_rfl) (by kernel_rfl) (fun _ _ _ h => h) (Or.inl ⟨by rfl, fun W hW => by go_simp⟩) S0 ?_
  simp only [Act.put, List.setIfInBounds_toArray, List.set_cons_zero, List.set_cons_succ]
  refine take_at 5 9 (v := .func (.func 55) #[.pointer (some ⟨D, 0, none⟩)] #[]) rfl rfl (by kernel_rfl) (by kernel_rfl) (by kernel_rfl) (fun _ _ _ h => h) (Or.inl ⟨by rfl, fun W hW => by go_simp⟩) S0 ?_
  simp only [Act.put, List.setIfInBounds_toArray, List.set_cons_zero, List.set_cons_succ]
  refine take_at 6 10 (v := .func (.func 63) #[] #[.pointer (some ⟨q, 0, none⟩)]) rfl rfl (by kernel_rfl) (by kernel_rfl) (by kernel_rfl) (fun _ _ _ h => h) (Or.inl ⟨by rfl, fun W hW => by go_simp⟩) S0 ?_
  simp only [Act.put, List.setIfInBounds_toArray, List.set_cons_zero, List.set_cons_succ]
  refine one_at 3 (by kernel_rfl) rfl rfl ?_
  refine oper_call 7 rfl (by go_simp; rfl) (tdec_any 4294967295 (mkB t_bad) 62 q W2) ?_
  rintro e w1 ⟨g1, f1, p1, rfl, k1, B1⟩
  have S1 : w1.cell? ⟨q, 0, none⟩ = some (.pointer (some ⟨D, 0, none⟩)) := (World.cell?_of_block (k1.block q hdl (by simp))).trans S0
  refine ⟨_, rfl, S1, ?_⟩
  simp only [Act.put, List.setIfInBounds_toArray, List.set_cons_zero, List.set_cons_succ]
  refine one_at 7 (by kernel_rfl) rfl rfl ?_
  refine oper_call 11 rfl (by go_simp; rfl) (tdec_any 18446744073709551615 (mkB t_bad) 63 q w1) ?_
  rintro e w2 ⟨g2, f2, p2, rfl, k2, B2⟩
  have S2 : w2.cell? ⟨q, 0, none⟩ = some (.pointer (some ⟨D, 0, none⟩)) := (World.cell?_of_block (k2.block q (Nat.lt_of_lt_of_le hdl k1.size) (by simp))).trans S1
  refine ⟨_, rfl, S2, ?_⟩
  simp only [Act.put, List.setIfInBounds_toArray, List.set_cons_zero, List.set_cons_succ]
  refine wpAnyH_done (by kernel_rfl) ?_ _
  change wpList _ _ _ _ _ _
  have hq := HQ.out
  have gw2 : w.grownBy w2 none := gr_trans hg2.out (gr_trans k1 k2)
  have hql : q < w2.heap.size := Nat.lt_of_lt_of_le hdl (Nat.le_trans k1.size k2.size)
  have hs2 := hg2.out.size
  have hs3 := k1.size
  have hs4 := k2.size
  have R3 : IsRd w1 w1.heap.size D 3 (numV g1 f1 p1) := rdNum (n1 := w.heap.size) (by decide) (by decide) (by decide) rfl rfl hlt hs2 (by omega) (by omega) S1 B1
  have R4 : IsRd w2 w2.heap.size D 4 (numV g2 f2 p2) := rdNum (n1 := w.heap.size) (by decide) (by decide) (by decide) rfl rfl hlt (by omega) (by omega) hql S2 B2
  have RL : RdL w2 D [0, 3, 1, 4] [keyV D, numV g1 f1 p1, expV D, numV g2 f2 p2] := ((((RdL.nil w2 D).cons R4).cons rdExp).cons (R3.up hs4 (Nat.le_refl _) k2)).cons rdKey
  obtain ⟨W3, hW3⟩ : ∃ W3, W3 = w2.alloc (.cells #[.func (.func 57) #[.pointer (some ⟨D, 0, none⟩)] #[], .func (.func 66) #[] #[.pointer (some ⟨g1, 0, none⟩), .pointer (some ⟨f1, 0, none⟩), .pointer (some ⟨p1, 0, none⟩)], .func (.func 55) #[.pointer (some ⟨D, 0, none⟩)] #[], .func (.func 66) #[] #[.pointer (some ⟨g2, 0, none⟩), .pointer (some ⟨f2, 0, none⟩), .pointer (some ⟨p2, 0, none⟩)]] 86) := ⟨_, rfl⟩
  have O3 := own_laid (e := 86) w2 #[.func (.func 57) #[.pointer (some ⟨D, 0, none⟩)] #[], .func (.func 66) #[] #[.pointer (some ⟨g1, 0, none⟩), .pointer (some ⟨f1, 0, none⟩), .pointer (some ⟨p1, 0, none⟩)], .func (.func 55) #[.pointer (some ⟨D, 0, none⟩)] #[], .func (.func 66) #[] #[.pointer (some ⟨g2, 0, none⟩), .pointer (some ⟨f2, 0, none⟩), .pointer (some ⟨p2, 0, none⟩)]] (n := 4) rfl (by decide)
  have g3 := World.grownBy_alloc w2 (.cells #[.func (.func 57) #[.pointer (some ⟨D, 0, none⟩)] #[], .func (.func 66) #[] #[.pointer (some ⟨g1, 0, none⟩), .pointer (some ⟨f1, 0, none⟩), .pointer (some ⟨p1, 0, none⟩)], .func (.func 55) #[.pointer (some ⟨D, 0, none⟩)] #[], .func (.func 66) #[] #[.pointer (some ⟨g2, 0, none⟩), .pointer (some ⟨f2, 0, none⟩), .pointer (some ⟨p2, 0, none⟩)]] 86) none
  rw [← hW3] at O3 g3
  have gw3 := gr_trans gw2 g3
  have RL3 : RdL W3 D [0, 3, 1, 4] [keyV D, numV g1 f1 p1, expV D, numV g2 f2 p2] := RL.on g3
  have S3 := (World.cell?_of_block (a := ⟨q, 0, none⟩) (g3.block q hql (by simp))).trans S2
  have hD3 : W3.heap[D]? = some (.cells (drC d a c va vc) t (0, 0)) := (gw3.block D hlt (by simp)).trans HD.out
  have v3 := dr_verb hD3
  have hql3 : q < W3.heap.size := Nat.lt_of_lt_of_le hql g3.size
  have hle : w.heap.size ≤ W3.heap.size := gw3.size
  obtain ⟨G3, hG3⟩ : ∃ G3, G3 = w2.heap.size := ⟨_, rfl⟩
  rw [← hG3] at O3
  replace O3 : Hid (W3.ownsRow w.heap.size 86 1 (.slice (some ⟨G3, 0, none⟩) 4 4) 4 [keyV D, numV g1 f1 p1, expV D, numV g2 f2 p2]) := ⟨O3.1, by
    rcases O3.2 with h | ⟨g, cap, cur, h1, h2, h3⟩
    · exact .inl h
    · exact .inr ⟨g, cap, cur, h1, by omega, h3⟩⟩
  replace RL3 := hide RL3
  replace RL := hide RL
  have hz3 : Hid (G3 = w2.heap.size ∧ W3.heap.size = G3 + 1 ∧ q < G3 ∧ w.heap.size ≤ G3 ∧ w.heap.size = q) := ⟨hG3, by rw [hW3, hG3, World.size_alloc], by omega, by omega, hq.symm⟩
  replace g3 := hide g3
  replace gw3 := hide gw3
  refine wpList_buildSlice rfl 82 86 4 _ rfl #[.func (.func 57) #[.pointer (some ⟨D, 0, none⟩)] #[], .func (.func 66) #[] #[.pointer (some ⟨g1, 0, none⟩), .pointer (some ⟨f1, 0, none⟩), .pointer (some ⟨p1, 0, none⟩)], .func (.func 55) #[.pointer (some ⟨D, 0, none⟩)] #[], .func (.func 66) #[] #[.pointer (some ⟨g2, 0, none⟩), .pointer (some ⟨f2, 0, none⟩), .pointer (some ⟨p2, 0, none⟩)]] i0 .nilFunc Tryd.underlying82 hi hz0 (by rw [hz1]; decide) (by rw [hz1]; decide) (by rw [hz1]; kernel_rfl) ?_
  rw [← hW3, ← hG3]
  clear hW3 hG3 S2 B2 S1 B1 S0 k1 k2 R3 R4 hql hs2 hs3 hs4 gw2 hg2 hdl hWs HD hD3 hq HQ
  by_cases hv : d.verb = vb_cas
  · have hk := hks.out
    rw [if_pos hv] at hk
    subst hk
    rw [hv] at v3
    simp only [mkB, vb_cas] at v3
    clear hv hks
    go_wp2_with (first
      | (go_at_call 58; refine (tdec_any _ _ _ _ _).mono ?_; rintro e w4 ⟨g4, f4, p4, rfl, k4, B4⟩; have O4 := hide (own_on O3.out k4); have R4 := hide (RL3.out.on k4); have S4 := hide ((World.cell?_of_block (a := ⟨q, 0, none⟩) (k4.block q hql3 (by simp))).trans S3); replace B4 := hide B4; replace k4 := hide k4; have gw4 := hide (gr_trans gw3.out k4.out))
      | (at_builtin; refine wpList_append_own _ rfl _ _ 82 rfl w.heap.size 86 i0 .nilFunc 1 8 Tryd.underlying82 hi hz0 hz1 hz2 rfl (by decide) _ _ _ rfl (O4.out.alloc _) ⟨w4.heap.size, 0, none⟩ 1 1 [numV g4 f4 p4] rfl rfl (cell_one_new _ _ _) (by simp [numV, Value.oneCell']) (by decide) (by decide) (by have := gw4.out.size; simp; omega) ?_; intro v' w5 o5 k5 _))
    go_ret
    obtain ⟨e1, e2, e3, e4, e5⟩ := hz3.out
    have z3 := k4.out.size
    have z4 := k5.size
    rw [World.size_alloc] at z4
    have bl : ∀ b, b < w4.heap.size → b ≠ G3 → w5.heap[b]? = w4.heap[b]? := fun b hb hne => (k5.block b (by rw [World.size_alloc]; omega) (fun e => hne (by cases e; rfl))).trans (Below.heap_alloc _ _ _ hb)
    have g5 : w.grownBy w5 none := ⟨k5.os.trans gw4.out.os, k5.tape.trans gw4.out.tape, k5.output.trans gw4.out.output, by omega, fun b hb _ => (bl b (by omega) (by omega)).trans (gw4.out.block b hb (by simp))⟩
    have g25 : Gr (fun k => k = D ∨ w2.heap.size ≤ k) w2 w5 := ⟨k5.os.trans (k4.out.os.trans g3.out.os), k5.tape.trans (k4.out.tape.trans g3.out.tape), k5.output.trans (k4.out.output.trans g3.out.output), by omega, fun b hb hn => (bl b (by omega) (by omega)).trans ((k4.out.block b (by omega) (by simp)).trans (g3.out.block b hb (by simp)))⟩
    obtain ⟨l1, l2, l3, l4, l5, l6, c1, c2, c3⟩ := B4.out
    have cell : ∀ b v, b < w4.heap.size → b ≠ G3 → w4.cell? ⟨b, 0, none⟩ = some v → w5.cell? ⟨b, 0, none⟩ = some v := fun b v hb hne h => (World.cell?_of_block (bl b hb hne)).trans h
    have n5 : IsRd w5 w5.heap.size D 5 (numV g4 f4 p4) := rdNum (n1 := w.heap.size) (w0 := W3) (by decide) (by decide) (by decide) rfl rfl hlt hle (by omega) (by omega) (cell q _ (by omega) (by omega) S4.out)
      ⟨l1, l2, l3, by omega, by omega, by omega, cell _ _ l4 (by omega) c1, cell _ _ l5 (by omega) c2, cell _ _ l6 (by omega) c3⟩
    exact ⟨v', _, rfl, o5, (RL.out.to g25).app ((RdL.nil w5 D).cons n5), g5⟩
  · have hk := hks.out
    rw [if_neg hv] at hk
    subst hk
    have hvb : (d.verb == [99, 97, 115]) = false := by simpa [vb_cas] using hv
    simp only [mkB] at v3
    clear hv hks
    go_wp2
    go_ret
    exact ⟨_, _, rfl, O3.out, RL3.out, gw3.out⟩
end
end Go.Proofs.YtfcmnkhfmofioaaDoor

namespace Go.Proofs.YtfcmnkhfmofioaaDoor
set_option linter.unusedVariables false
open Go.RowKit

section
variable {Q : Nat → Prop} {w : World} {n0 D : Nat} {d : Dv} {ka va : Option Addr} {c vc : Nat} {t : TypeId} {a : Option Addr} {len cap : Nat} {ws : List (List UInt8)}
theorem PartsEnd.up {W w' : World} {ks : List Nat} {e : Ending} (h : PartsEnd D ks W e w') (hg : w.grownBy W none) : PartsEnd D ks w e w' := by
  obtain ⟨v, xs, h1, h2, h3, h4⟩ := h
  exact ⟨v, xs, h1, ⟨h2.1, h2.2.imp id fun ⟨g, cp, cur, a1, a2, a3⟩ => ⟨g, cp, cur, a1, Nat.le_trans hg.size a2, a3⟩⟩, h3, gr_trans hg h4⟩
theorem PartsEnd.row {w' : World} {ks : List Nat} {cs : Array Value} {b : Nat} (hb : w'.heap.size = b) (h : RdL w' D ks cs.toList) (hn : cs.size = ks.length) (hm : ks.length ≤ maxLen) (hg : w.grownBy w' none) : PartsEnd D ks w (.returned (.slice (some ⟨b, 0, none⟩) ks.length ks.length)) (w'.alloc (.cells cs 86)) := by
  subst hb
  have hg2 := World.grownBy_alloc w' (.cells cs 86) none
  have h2 := own_laid (e := 86) w' cs hn hm
  exact ⟨_, _, rfl, ⟨h2.1, h2.2.imp id fun ⟨g, cp, cur, a1, a2, a3⟩ => ⟨g, cp, cur, a1, Nat.le_trans hg.size a2, a3⟩⟩, h.on hg2, gr_trans hg hg2⟩
theorem PartsEnd.none_ (w : World) (D : Nat) {w' : World} (hg : w.grownBy w' none) : PartsEnd D [] w (.returned (.slice none 0 0)) w' := ⟨_, [], rfl, World.ownsRow_nil _ _ _ _, RdL.nil _ _, hg⟩
/-- What every case has: the box of the draft's address. -/
structure PBox (w : World) (D q : Nat) (W : World) : Prop where
  gr : w.grownBy W none
  cq : W.cell? ⟨q, 0, none⟩ = some (.pointer (some ⟨D, 0, none⟩))
  hq : w.heap.size = q
  lt : q < W.heap.size
theorem pbox (w : World) (D : Nat) : PBox w D w.heap.size (w.alloc (.cells #[.pointer (some ⟨D, 0, none⟩)] 81)) :=
  ⟨World.grownBy_alloc _ _ _, (Boxed.new w _ _).cell, rfl, by rw [World.size_alloc]; exact Nat.lt_succ_self _⟩
theorem replicate_max {op : Int} (v : List UInt8) (h : op = 0) : partsN op v ws = List.replicate (max ws.length 1) 0 := by unfold partsN; rw [if_pos h]
set_option maxRecDepth 100000 in
set_option maxHeartbeats 2000000 in
theorem parts0 (hD : w.heap[D]? = some (.cells (drC d ka c va vc) t (0, 0))) (hl : len ≤ 5000) (hop : d.op = 0) : Calls Tryd.prog 46 #[.pointer (some ⟨D, 0, none⟩), .slice a len cap] w fun e w' => PartsEnd D (List.replicate (max len 1) 0) w e w' := by
  have hlt : D < w.heap.size := (Array.getElem?_eq_some_iff.1 hD).1
  have hB := pbox w D
  have hDW := (hB.gr.block D hlt (by simp)).trans hD
  have co := dr_op hDW
  rw [hop] at co
  have cq := hB.cq
  have HB := hide hB
  clear hB
  have HK := hide (fun W => keys_any D (max len 1) (len : Int) (by omega) (by omega) W)
  go_enter Tryd.func46, Tryd.ntmps46
  go_wp2_with (go_at_call 54; refine (HK.out _).mono ?_; rintro e w1 ⟨v, rfl, o1, b1⟩)
  go_ret
  refine PartsEnd.up ⟨v, _, rfl, ?_, RdL.keys _ D _, gr_of_below b1⟩ HB.out.gr
  rw [List.length_replicate]
  exact o1
set_option maxRecDepth 100000 in
set_option maxHeartbeats 2000000 in
theorem parts3 (hD : w.heap[D]? = some (.cells (drC d ka c va vc) t (0, 0))) (hop : d.op = 3 ∨ d.op = 4 ∨ d.op = 5 ∨ d.op = 6 ∨ d.op = 7) : Calls Tryd.prog 46 #[.pointer (some ⟨D, 0, none⟩), .slice a len cap] w fun e w' => PartsEnd D (if d.verb = vb_cas then [0, 3, 1, 4, 5] else [0, 3, 1, 4]) w e w' := by
  have hlt : D < w.heap.size := (Array.getElem?_eq_some_iff.1 hD).1
  have hB := pbox w D
  have hDW := (hB.gr.block D hlt (by simp)).trans hD
  have co := dr_op hDW
  have cq := hB.cq
  have HB := hide hB
  have HS := hide (storing_any hDW)
  generalize (if d.verb = vb_cas then [0, 3, 1, 4, 5] else [0, 3, 1, 4]) = ks at *
  clear hB hDW hD
  rcases hop with h | h | h | h | h
  all_goals
    rw [h] at co
    clear h
    go_enter Tryd.func46, Tryd.ntmps46
    go_wp2_with (go_at_call 56; refine HS.out.mono ?_; rintro e w1 ⟨v, xs, rfl, o1, r1, b1⟩)
    go_ret
    exact PartsEnd.up ⟨v, xs, rfl, o1, r1, b1⟩ HB.out.gr
set_option maxRecDepth 100000 in
set_option maxHeartbeats 2000000 in
theorem parts8 (hD : w.heap[D]? = some (.cells (drC d ka c va vc) t (0, 0))) (hop : d.op = 8) : Calls Tryd.prog 46 #[.pointer (some ⟨D, 0, none⟩), .slice a len cap] w fun e w' => PartsEnd D [0] w e w' := by
  have hlt : D < w.heap.size := (Array.getElem?_eq_some_iff.1 hD).1
  have hB := pbox w D
  have hDW := (hB.gr.block D hlt (by simp)).trans hD
  have co := dr_op hDW
  rw [hop] at co
  have cq := hB.cq
  have HB := hide hB
  clear hB
  go_enter Tryd.func46, Tryd.ntmps46
  go_wp2
  go_ret
  exact PartsEnd.row (cs := #[keyV D]) (World.size_alloc _ _) ((RdL.nil _ D).cons rdKey) rfl (by decide) HB.out.gr
set_option maxRecDepth 100000 in
set_option maxHeartbeats 2000000 in
theorem parts2 (hD : w.heap[D]? = some (.cells (drC d ka c va vc) t (0, 0))) (hop : d.op = 2) : Calls Tryd.prog 46 #[.pointer (some ⟨D, 0, none⟩), .slice a len cap] w fun e w' => PartsEnd D [0, 1] w e w' := by
  have hlt : D < w.heap.size := (Array.getElem?_eq_some_iff.1 hD).1
  have hB := pbox w D
  have hDW := (hB.gr.block D hlt (by simp)).trans hD
  have co := dr_op hDW
  rw [hop] at co
  have cq := hB.cq
  have HB := hide hB
  clear hB
  go_enter Tryd.func46, Tryd.ntmps46
  go_wp2
  go_ret
  exact PartsEnd.row (cs := #[keyV D, expV D]) (World.size_alloc _ _) (((RdL.nil _ D).cons rdExp).cons rdKey) rfl (by decide) HB.out.gr
set_option maxRecDepth 100000 in
set_option maxHeartbeats 2000000 in
theorem parts15 (hD : w.heap[D]? = some (.cells (drC d ka c va vc) t (0, 0))) (hop : d.op = 15 ∨ d.op = 16) : Calls Tryd.prog 46 #[.pointer (some ⟨D, 0, none⟩), .slice a len cap] w fun e w' => PartsEnd D [] w e w' := by
  have hlt : D < w.heap.size := (Array.getElem?_eq_some_iff.1 hD).1
  have hB := pbox w D
  have hDW := (hB.gr.block D hlt (by simp)).trans hD
  have co := dr_op hDW
  have cq := hB.cq
  have HB := hide hB
  clear hB hDW hD
  rcases hop with h | h
  all_goals
    rw [h] at co
    clear h
    go_enter Tryd.func46, Tryd.ntmps46
    go_wp2
    go_ret
    exact PartsEnd.none_ w D HB.out.gr
set_option maxRecDepth 100000 in
set_option maxHeartbeats 2000000 in
theorem parts13 (hD : w.heap[D]? = some (.cells (drC d ka c va vc) t (0, 0))) (hW : Wu Q w a len cap ws) (hop : d.op = 13) : Calls Tryd.prog 46 #[.pointer (some ⟨D, 0, none⟩), .slice a len cap] w fun e w' => PartsEnd D (if ws ≠ [] ∧ quietN 13 ws 0 = false then [1] else []) w e w' := by
  have hlt : D < w.heap.size := (Array.getElem?_eq_some_iff.1 hD).1
  have hB := pbox w D
  have hDW := (hB.gr.block D hlt (by simp)).trans hD
  have co := dr_op hDW
  rw [hop] at co
  have cq := hB.cq
  have HB := hide hB
  clear hB
  have HI := hide (isQuiet_any hDW (hW.on fun b _ hb => HB.out.gr.block b hb (by simp)) 0 (by decide))
  rw [hop] at HI
  have hn := hW.n
  clear hDW hW hD
  by_cases h0 : len = 0
  · rw [if_neg (fun h => h.1 (List.eq_nil_of_length_eq_zero (hn.trans h0)))]
    subst h0
    clear HI
    go_enter Tryd.func46, Tryd.ntmps46
    go_wp2_with (go_at_call 47; refine HI.out.mono ?_; rintro e w1 ⟨rfl, rfl⟩)
    go_ret
    exact PartsEnd.none_ w D HB.out.gr
  · have hne : ws ≠ [] := fun e => h0 (by rw [← hn, e]; rfl)
    have hp : (0 : Int) < (len : Int) := by omega
    cases hq : quietN 13 ws 0
    · rw [if_pos ⟨hne, rfl⟩]
      rw [hq] at HI
      clear hq hne
      go_enter Tryd.func46, Tryd.ntmps46
      go_wp2_with (go_at_call 47; refine HI.out.mono ?_; rintro e w1 ⟨rfl, rfl⟩)
      go_ret
      exact PartsEnd.row (cs := #[expV D]) (World.size_alloc _ _) ((RdL.nil _ D).cons rdExp) rfl (by decide) HB.out.gr
    · rw [if_neg (fun h => by cases h.2)]
      rw [hq] at HI
      clear hq hne
      go_enter Tryd.func46, Tryd.ntmps46
      go_wp2_with (go_at_call 47; refine HI.out.mono ?_; rintro e w1 ⟨rfl, rfl⟩)
      go_ret
      exact PartsEnd.none_ w D HB.out.gr
end
end Go.Proofs.YtfcmnkhfmofioaaDoor
