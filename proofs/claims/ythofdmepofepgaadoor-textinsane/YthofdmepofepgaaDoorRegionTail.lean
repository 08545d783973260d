/- A region that draws its order, in the round of a range over a function: all its operations but the last only read (calls among them leave the world as it was, but for draws), and the last one waits for all others: one walk in the order of the text serves every order. Our own, over the library's theorem on regions that only read. Conditions: no guards, no defer. -/
import Derived.Sort.BigQuietIn
import Derived.StillTail
import Derived.Test.YthofdmepofepgaaDoorRangeOwn
namespace Go.Proofs.YthofdmepofepgaaDoor
open Go.RowKit Go.Shelf

variable {F : Fence} {n : Nat} {P : Program}

/-- An operation that is no defer goes in a round as anywhere. -/
theorem oper_round {o : Oper} {a : Act} {w : World} {K : Act → World → Prop} {Q : Exit → Act → World → Prop} (l : Nat) (hro : F.round = none) (hd : ∀ c, o.op ≠ .defer c) (h : o.wpIn F n P a w K Q) : o.wpIn (F.inRound l) n P a w K Q := by
  unfold Oper.wpIn at h ⊢
  refine ⟨h.1, ?_⟩
  have h2 := h.2
  rw [hro, Oper.semAt_none] at h2
  rw [Fence.inRound_round, Oper.semAt_some l _ _ hd]
  exact h2

theorem push_getD {L : Array Bool} {i : Nat} (d : Bool) (h : i < L.size) : (L.push false).getD i d = L.getD i d := by
  simp [Array.getD, h, Nat.lt_succ_of_lt h, Array.getElem_push_lt h]
theorem push_set {L : Array Bool} {i : Nat} (h : i < L.size) : (L.push false).setIfInBounds i true = (L.setIfInBounds i true).push false := by
  apply Array.ext_getElem?
  intro j
  rw [Array.getElem?_setIfInBounds, Array.getElem?_push, Array.getElem?_push, Array.getElem?_setIfInBounds]
  simp only [Array.size_setIfInBounds, Array.size_push]
  by_cases hij : i = j
  · subst hij
    rw [if_pos rfl, if_pos (by omega), if_neg (by omega), if_pos rfl, if_pos h]
  · rw [if_neg hij, if_neg hij]
theorem getD_two {L : Array Bool} {i : Nat} (h : i < L.size) : L.getD i true = L.getD i false := by
  simp [Array.getD, h]

/-- What is asked of the region's text. -/
structure TailOk (H : Array Oper) (st : Oper) : Prop where
  select : Region.noSelect H = true
  lex : Region.lexFrom .any H H.size 0 (Array.replicate H.size false) = true
  low : ∀ (i : Nat) (o : Oper), H[i]? = some o → ∀ e ∈ o.after, e.on < i
  guard : ∀ (i : Nat) (o : Oper), H[i]? = some o → o.guard = none
  plain : ∀ (i : Nat) (o : Oper), H[i]? = some o → ∀ c, o.op ≠ .defer c
  stLow : ∀ e ∈ st.after, e.on < H.size
  stGuard : st.guard = none
  sink : Region.sinkB .any (H.push st) H.size = true

def isDefer : Op → Bool
  | .defer _ => true
  | _ => false
def tailB (H : Array Oper) (st : Oper) : Bool :=
  Region.noSelect H && Region.lexFrom .any H H.size 0 (Array.replicate H.size false) && ((List.range H.size).all fun i => match H[i]? with
    | some o => (o.after.all fun e => decide (e.on < i)) && o.guard.isNone && !isDefer o.op
    | none => true) && (st.after.all fun e => decide (e.on < H.size)) && st.guard.isNone && Region.sinkB .any (H.push st) H.size
theorem tailOk_of {H : Array Oper} {st : Oper} (h : tailB H st = true) : TailOk H st := by
  simp only [tailB, Bool.and_eq_true] at h
  obtain ⟨⟨⟨⟨⟨h1, h2⟩, h3⟩, h4⟩, h5⟩, h6⟩ := h
  have one : ∀ (i : Nat) (o : Oper), H[i]? = some o → ((o.after.all fun e => decide (e.on < i)) = true ∧ o.guard.isNone = true) ∧ isDefer o.op = false := fun i o ho => by
    have := List.all_eq_true.1 h3 i (List.mem_range.2 (Array.getElem?_eq_some_iff.1 ho).1)
    simp only [ho, Bool.and_eq_true, Bool.not_eq_true'] at this
    exact this
  refine ⟨h1, h2, fun i o ho e he => ?_, fun i o ho => ?_, fun i o ho c hc => ?_, fun e he => ?_, ?_, h6⟩
  · exact of_decide_eq_true (Array.all_eq_true_iff_forall_mem.1 (one i o ho).1.1 e he)
  · exact Option.isNone_iff_eq_none.1 (one i o ho).1.2
  · have := (one i o ho).2
    rw [hc] at this
    cases this
  · exact of_decide_eq_true (Array.all_eq_true_iff_forall_mem.1 h4 e he)
  · exact Option.isNone_iff_eq_none.1 h5

theorem all_listed {H : Array Oper} {L : Array Bool} (hs : L.size = H.size) (low : ∀ (i : Nat) (o : Oper), H[i]? = some o → ∀ e ∈ o.after, e.on < i) (hr : Region.ready .any H L = []) : ∀ i, i < H.size → L.getD i true = true := by
  intro i
  induction i using Nat.strongRecOn with
  | _ i ih =>
    intro hi
    cases hl : L.getD i true with
    | true => rfl
    | false =>
      have : i ∈ Region.ready .any H L := mem_ready.2 ⟨hl, H[i], Array.getElem?_eq_getElem hi, fun e he _ => by
        have h1 := low i _ (Array.getElem?_eq_getElem hi) e he
        rw [← getD_two (by omega)]
        exact ih e.on h1 (by omega)⟩
      rw [hr] at this
      cases this

theorem tail_last {H : Array Oper} {st : Oper} (ok : TailOk H st) (l : Nat) {C : World → Prop} {Qh : Act → Prop} {Q : Exit → Act → World → Prop}
    (hst : ∀ a w, C w → Qh a → st.wpIn (F.inRound l) n P a w (fun a' w' => Q .normal a' w') Q) {L : Array Bool} {a : Act} {w : World} {fuel : Nat} (hs : L.size = H.size) (hC : C w) (hr : Region.ready .any H L = []) (hq : Qh a) : wpAnyIn (F.inRound l) n P .any (H.push st) Q (fuel + 1) (L.push false) a w := by
  have hall := all_listed hs ok.low hr
  have hlast : (L.push false).getD H.size true = false := by
    rw [← hs]
    simp [Array.getD]
  have hstm : (H.push st)[H.size]? = some st := Array.getElem?_push_size
  have hmem : H.size ∈ Region.ready .any (H.push st) (L.push false) := mem_ready.2 ⟨hlast, st, hstm, fun e he _ => by
    have := ok.stLow e he
    rw [push_getD _ (by omega), ← getD_two (by omega)]
    exact hall _ this⟩
  refine ⟨fun h0 => ?_, fun i hi => ?_⟩
  · rw [h0] at hmem
    cases hmem
  · have hi' : i = H.size := by
      obtain ⟨u, o, ho, _⟩ := mem_ready.1 hi
      have h1 := (Array.getElem?_eq_some_iff.1 ho).1
      rw [Array.size_push] at h1
      rcases Nat.lt_or_ge i H.size with h2 | h2
      · rw [push_getD _ (by omega), hall i h2] at u
        cases u
      · omega
    subst hi'
    have hw : ∀ y, Region.wanted st y = true := fun y => by simp [Region.wanted, ok.stGuard]
    unfold wpOpIn
    simp only [hstm, hw, if_true]
    refine Oper.wpIn_mono ?_ (hst a w hC hq)
    intro a' w' hQ
    have hend : Region.ready .any (H.push st) ((L.push false).setIfInBounds H.size true) = [] := by
      apply List.eq_nil_iff_forall_not_mem.2
      intro j hj
      obtain ⟨u, o, ho, _⟩ := mem_ready.1 hj
      have h1 := (Array.getElem?_eq_some_iff.1 ho).1
      rw [Array.size_push] at h1
      by_cases hjm : H.size = j
      · subst hjm
        rw [← hs] at u
        simp [Array.getD] at u
      · rw [getD_set_ne true hjm, push_getD _ (by omega), hall j (by omega)] at u
        cases u
    cases fuel with
    | zero => exact ⟨hend, hQ⟩
    | succ k => exact ⟨fun _ => hQ, fun i hi => by rw [hend] at hi; cases hi⟩

theorem tail_bridge {H : Array Oper} {st : Oper} (ok : TailOk H st) (l : Nat) (hro : F.round = none) {C : World → Prop} {Qh : Act → Prop} {Q : Exit → Act → World → Prop}
    (hst : ∀ a w, C w → Qh a → st.wpIn (F.inRound l) n P a w (fun a' w' => Q .normal a' w') Q) :
    ∀ (fuel : Nat) (L : Array Bool) (a : Act) (w : World), L.size = H.size → HeadInv .any (H.push st) H.size (L.push false) → C w → wpAnyQIn F n P .any H C Qh fuel L a →
      wpAnyIn (F.inRound l) n P .any (H.push st) Q (fuel + 1) (L.push false) a w := by
  intro fuel
  induction fuel with
  | zero =>
    intro L a w hs inv hC h
    exact tail_last ok l hst hs hC h.1 h.2
  | succ fuel ih =>
    intro L a w hs inv hC h
    by_cases hr : Region.ready .any H L = []
    · exact tail_last ok l hst hs hC hr (h.1 hr)
    · obtain ⟨i0, hi0⟩ := List.exists_mem_of_ne_nil _ hr
      obtain ⟨u0, o0, ho0, _⟩ := mem_ready.1 hi0
      have lt0 : i0 < H.size := (Array.getElem?_eq_some_iff.1 ho0).1
      have hno := tail_waits ok.sink (by simp [Region.chainB]; omega) (by simp) inv _ i0 rfl lt0 (by rw [push_getD _ (by omega)]; exact u0)
      refine ⟨fun h0 => ?_, fun i hi => ?_⟩
      · have : i0 ∈ Region.ready .any (H.push st) (L.push false) := by
          obtain ⟨_, o, ho, hall⟩ := mem_ready.1 hi0
          refine mem_ready.2 ⟨by rw [push_getD _ (by omega)]; exact u0, o, by rw [Array.getElem?_push_lt lt0]; rw [Array.getElem?_eq_getElem lt0] at ho; exact ho, fun e he hb => ?_⟩
          have hlo := ok.low i0 o ho e he
          rw [push_getD _ (by omega)]
          exact hall e he hb
        rw [h0] at this
        cases this
      · have hlt : i < H.size := by
          rcases Nat.lt_or_ge i H.size with h1 | h1
          · exact h1
          · exact (hno i h1 hi).elim
        have hiH : i ∈ Region.ready .any H L := by
          obtain ⟨u, o, ho, hall⟩ := mem_ready.1 hi
          rw [push_getD _ (by omega)] at u
          rw [Array.getElem?_push_lt hlt] at ho
          have ho' : H[i]? = some o := by rw [Array.getElem?_eq_getElem hlt]; exact ho
          refine mem_ready.2 ⟨u, o, ho', fun e he hb => ?_⟩
          have := hall e he hb
          have hlo := ok.low i o ho' e he
          rwa [push_getD _ (by omega)] at this
        have hq := h.2 i hiH
        have inv' := inv.set hi hlt
        rw [push_set (by omega)] at inv'
        have ho' : H[i]? = some H[i] := Array.getElem?_eq_getElem hlt
        have hog : (H.push st)[i]? = some H[i] := Array.getElem?_push_lt hlt
        have hg : H[i].guard = none := ok.guard i _ ho'
        have hw : ∀ y, Region.wanted H[i] y = true := fun y => by simp [Region.wanted, hg]
        unfold qOpIn at hq
        simp only [ho', hw, if_true] at hq
        unfold wpOpIn
        simp only [hog, hw, if_true]
        refine oper_round l hro (ok.plain i _ ho') (Oper.wpIn_of_quiet hro hC ?_ hq.1 hq.2)
        intro a' w' hC' hk
        rw [push_set (by omega)]
        exact ih _ a' w' (by simp [hs]) inv' hC' hk
/-- One walk in the order of the text, and the last operation behind it. -/
theorem region_tail {id : Nat} {Q : Exit → Act → World → Prop} {a : Act} {w : World} {ops : List Oper} (m : Nat) (st : Oper) (l : Nat) (hst : ops = ops.take m ++ [st]) (hro : F.round = none) (hm : P.follows .mixedOrders = true) (hB : tailB (ops.take m).toArray st = true)
    (h : wpQuietIn F n P (ops.take m).toArray (fun w' => ∃ k, w' = w.drewN k) (fun a' => ∀ w', (∃ k, w' = w.drewN k) → st.wpIn (F.inRound l) n P a' w' (fun a'' w'' => Q .normal a'' w'') Q) (ops.take m) a) :
    (Code.region id ops.toArray true).wpIn (F.inRound l) n P Q a w := by
  have ok := tailOk_of hB
  generalize ops.take m = hd at *
  subst hst
  have e : (hd ++ [st]).toArray = hd.toArray.push st := by simp
  have e2 : (hd.toArray.push st).size = hd.length + 1 := by simp
  have e3 : Array.replicate (hd.length + 1) false = (Array.replicate hd.length false).push false := Array.replicate_succ
  rw [e]
  refine wpIn_region_any hm ?_
  rw [e2, e3]
  refine tail_bridge ok l hro (C := fun w' => ∃ k, w' = w.drewN k) (Qh := fun a' => ∀ w', (∃ k, w' = w.drewN k) → st.wpIn (F.inRound l) n P a' w' (fun a'' w'' => Q .normal a'' w'') Q) (fun a w hC hq => hq w hC) hd.length _ a _ (by simp) ?_ ⟨1, rfl⟩ ?_
  · refine ⟨by simp, fun j oj _ hl => ?_, fun t ht ht' => ?_⟩
    · rw [← e3, getD_replicate_false] at hl
      cases hl
    · have : t = hd.length := by
        simp at ht ht'
        omega
      subst this
      rw [← e3]
      simp [Array.getD]
  · have := wpAnyQIn_lex (F := F) (n := n) (P := P) (C := fun w' => ∃ k, w' = w.drewN k) (md := .any) ok.select hd 0 (Array.replicate hd.length false) a (by simp) (by simpa using ok.lex) h
    exact this
end Go.Proofs.YthofdmepofepgaaDoor
