/- A region that draws its order: its first operations keep the world within a class in which each yields one value, and the others wait for all ahead of them: one walk in the order of the text serves every order. Our own, over the library's theorems on regions that only read and on operations that wait. Conditions: no guards among the first ones. -/
import Derived.Deep.Quiet
import Derived.StillTail
import Derived.Shelf.SlSortCmp.QuietGrown
import Derived.Test.YthofdmepofepgaaDoorRegionTail
namespace Go.Proofs.YthofdmepofepgaaDoor
open Go.RowKit Go.Shelf Go.Sort

variable {P : Program}
theorem app_getD {L F : Array Bool} {i : Nat} (d : Bool) (h : i < L.size) : (L ++ F).getD i d = L.getD i d := by
  simp [Array.getD, h, Nat.lt_of_lt_of_le h (Nat.le_add_right _ _), Array.getElem_append_left h]
theorem app_set {L F : Array Bool} {i : Nat} (h : i < L.size) : (L ++ F).setIfInBounds i true = (L.setIfInBounds i true) ++ F := by
  apply Array.ext_getElem?
  intro j
  rw [Array.getElem?_setIfInBounds, Array.getElem?_append, Array.getElem?_append, Array.getElem?_setIfInBounds]
  simp only [Array.size_setIfInBounds, Array.size_append]
  by_cases hij : i = j
  · subst hij
    rw [if_pos rfl, if_pos (by omega), if_pos h, if_pos rfl, if_pos h]
  · rw [if_neg hij, if_neg hij]
theorem wpAny_more {md : Region.Mode} {ops : Array Oper} {Q : Exit → Act → World → Prop} : ∀ (k : Nat) (listed : Array Bool) (a : Act) (w : World), wpAny P md ops Q k listed a w → wpAny P md ops Q (k + 1) listed a w
  | 0, _, _, _, h => ⟨fun _ => h.2, fun i hi => by rw [h.1] at hi; cases hi⟩
  | k + 1, _, _, _, h => ⟨h.1, fun i hi => wpOp_mono (fun a' w' h' => wpAny_more k _ a' w' h') (h.2 i hi)⟩
theorem wpAny_fuel {md : Region.Mode} {ops : Array Oper} {Q : Exit → Act → World → Prop} (m : Nat) : ∀ (k : Nat) (listed : Array Bool) (a : Act) (w : World), wpAny P md ops Q m listed a w → wpAny P md ops Q (k + m) listed a w
  | 0, _, _, _, h => by rw [Nat.zero_add]; exact h
  | k + 1, listed, a, w, h => by rw [show k + 1 + m = k + m + 1 by omega]; exact wpAny_more _ _ _ _ (wpAny_fuel m k listed a w h)
/-- What is asked of the region's text. -/
structure CTailOk (H ops : Array Oper) (n m : Nat) : Prop where
  select : Region.noSelect H = true
  lex : Region.lexFrom .any H H.size 0 (Array.replicate H.size false) = true
  low : ∀ (i : Nat) (o : Oper), H[i]? = some o → ∀ e ∈ o.after, e.on < i
  guard : ∀ (i : Nat) (o : Oper), H[i]? = some o → o.guard = none
  sink : Region.sinkB .any ops n = true
  chain : Region.chainB .any ops n = true
  seq : Region.seqB .any ops m n (Array.replicate n true ++ Array.replicate m false) = true
def ctailB (H ops : Array Oper) (n m : Nat) : Bool :=
  Region.noSelect H && Region.lexFrom .any H H.size 0 (Array.replicate H.size false) && ((List.range H.size).all fun i => match H[i]? with
    | some o => (o.after.all fun e => decide (e.on < i)) && o.guard.isNone
    | none => true) && Region.sinkB .any ops n && Region.chainB .any ops n && Region.seqB .any ops m n (Array.replicate n true ++ Array.replicate m false)
theorem ctailOk_of {H ops : Array Oper} {n m : Nat} (h : ctailB H ops n m = true) : CTailOk H ops n m := by
  simp only [ctailB, Bool.and_eq_true] at h
  obtain ⟨⟨⟨⟨⟨h1, h2⟩, h3⟩, h4⟩, h5⟩, h6⟩ := h
  have one : ∀ (i : Nat) (o : Oper), H[i]? = some o → (o.after.all fun e => decide (e.on < i)) = true ∧ o.guard.isNone = true := fun i o ho => by
    have := List.all_eq_true.1 h3 i (List.mem_range.2 (Array.getElem?_eq_some_iff.1 ho).1)
    simp only [ho, Bool.and_eq_true] at this
    exact this
  exact ⟨h1, h2, fun i o ho e he => of_decide_eq_true (Array.all_eq_true_iff_forall_mem.1 (one i o ho).1 e he), fun i o ho => Option.isNone_iff_eq_none.1 (one i o ho).2, h4, h5, h6⟩
theorem ct_done {H ops : Array Oper} {n m : Nat} (ok : CTailOk H ops n m) (hn : H.size = n) {l : List Oper} (hl : l.length = m) (hat : ∀ j, l[j]? = ops[n + j]?) {Q : Exit → Act → World → Prop} {L : Array Bool} {a : Act} {w : World} (hs : L.size = H.size) (hr : Region.ready .any H L = []) (h : wpList P ops Q l a w) : wpAny P .any ops Q m (L ++ Array.replicate m false) a w := by
  have hall := all_listed hs ok.low hr
  have hL : L = Array.replicate n true := by
    apply Array.ext
    · simp [hs, hn]
    · intro i h1 h2
      have := hall i (by omega)
      simp [Array.getD, h1] at this
      simp [this]
  have hq := ok.seq
  rw [← hl] at hq ⊢
  rw [hL]
  exact wpAny_of_seq l n _ a w hat hq h
theorem ct_bridge {H ops : Array Oper} {n m : Nat} (ok : CTailOk H ops n m) (hn : H.size = n) (hm : 0 < m) (hsz : ops.size = n + m) (hhd : ∀ i, i < n → ops[i]? = H[i]?) {l : List Oper} (hl : l.length = m) (hat : ∀ j, l[j]? = ops[n + j]?) {C : World → Prop} {Q : Exit → Act → World → Prop} :
    ∀ (fuel : Nat) (L : Array Bool) (a : Act) (w : World), L.size = H.size → HeadInv .any ops n (L ++ Array.replicate m false) → C w → wpAnyQ P .any H C (fun a' => ∀ w', C w' → wpList P ops Q l a' w') fuel L a →
      wpAny P .any ops Q (fuel + m) (L ++ Array.replicate m false) a w := by
  intro fuel
  induction fuel with
  | zero =>
    intro L a w hs inv hC h
    rw [Nat.zero_add]
    exact ct_done ok hn hl hat hs h.1 (h.2 w hC)
  | succ fuel ih =>
    intro L a w hs inv hC h
    by_cases hr : Region.ready .any H L = []
    · exact wpAny_fuel m _ _ _ _ (ct_done ok hn hl hat hs hr (h.1 hr w hC))
    · obtain ⟨i0, hi0⟩ := List.exists_mem_of_ne_nil _ hr
      obtain ⟨u0, o0, ho0, hw0⟩ := mem_ready.1 hi0
      have lt0 : i0 < H.size := (Array.getElem?_eq_some_iff.1 ho0).1
      have hno := tail_waits ok.sink ok.chain (by omega) inv _ i0 rfl (by omega) (by rw [app_getD _ (by omega)]; exact u0)
      rw [show fuel + 1 + m = fuel + m + 1 by omega]
      refine ⟨fun h0 => ?_, fun i hi => ?_⟩
      · have : i0 ∈ Region.ready .any ops (L ++ Array.replicate m false) := by
          refine mem_ready.2 ⟨by rw [app_getD _ (by omega)]; exact u0, o0, by rw [hhd i0 (by omega)]; exact ho0, fun e he hb => ?_⟩
          have hlo := ok.low i0 o0 ho0 e he
          rw [app_getD _ (by omega)]
          exact hw0 e he hb
        rw [h0] at this
        cases this
      · have hlt : i < n := by
          rcases Nat.lt_or_ge i n with h1 | h1
          · exact h1
          · exact (hno i h1 hi).elim
        obtain ⟨u, o, ho, hw⟩ := mem_ready.1 hi
        rw [app_getD _ (by omega)] at u
        have ho' : H[i]? = some o := by rw [← hhd i hlt]; exact ho
        have hiH : i ∈ Region.ready .any H L := by
          refine mem_ready.2 ⟨u, o, ho', fun e he hb => ?_⟩
          have := hw e he hb
          have hlo := ok.low i o ho' e he
          rwa [app_getD _ (by omega)] at this
        have hq := h.2 i hiH
        have inv' := inv.set hi hlt
        rw [app_set (by omega)] at inv'
        have hg : o.guard = none := ok.guard i o ho'
        have hwt : ∀ y, Region.wanted o y = true := fun y => by simp [Region.wanted, hg]
        unfold qOp at hq
        simp only [ho', hwt, if_true] at hq
        unfold wpOp
        simp only [ho, hwt, if_true]
        refine .inl (Oper.wp_of_quiet hC (fun a' w' hC' hk => ?_) hq)
        rw [app_set (by omega)]
        exact ih _ a' w' (by simp [hs]) inv' hC' hk
/-- One walk in the order of the text; the last ones behind it. -/
theorem region_ctail {C : World → Prop} {id : Nat} {Q : Exit → Act → World → Prop} {a : Act} {w : World} {l : List Oper} (n : Nat) (hm : P.follows .mixedOrders = true) (hn : n < l.length) (hB : ctailB (l.take n).toArray l.toArray n (l.length - n) = true) (hC : C w.drew)
    (h : wpQuiet P (l.take n).toArray C (fun a' => ∀ w', C w' → wpList P l.toArray Q (l.drop n) a' w') (l.take n) a) : (Code.region id l.toArray true).wp P Q a w := by
  have ok := ctailOk_of hB
  have h1 : (l.take n).toArray.size = n := by simp; omega
  refine wp_region_any hm ?_
  have hq := wpAnyQ_lex (P := P) (C := C) (md := .any) ok.select (l.take n) 0 (Array.replicate (l.take n).length false) a (by simp) (by simpa using ok.lex) h
  have hinv : HeadInv .any l.toArray n (Array.replicate (l.take n).length false ++ Array.replicate (l.length - n) false) := by
    refine ⟨by simp; omega, fun j oj _ hl => ?_, fun t ht ht' => ?_⟩
    · have : ∀ (p q j : Nat), (Array.replicate p false ++ Array.replicate q false).getD j false = false := fun p q j => by
        rw [Array.replicate_append_replicate]
        exact getD_replicate_false _ _
      rw [this] at hl
      cases hl
    · have ht2 : t < l.length := by simpa using ht'
      rw [Array.replicate_append_replicate]
      exact getD_in (by simp; omega) (getD_replicate_false _ _)
  have := ct_bridge ok h1 (by omega) (by simp; omega) (fun i hi => by simp [hi]) (l := l.drop n) (by simp) (fun j => by simp) (C := C) (Q := Q) _ _ a w.drew (by simp) hinv hC hq
  rw [Array.replicate_append_replicate] at this
  have e1 : (l.take n).length + (l.length - n) = l.toArray.size := by simp; omega
  rw [e1] at this
  exact this
/-- The first ones draw alone. -/
theorem region_dtail {id : Nat} {Q : Exit → Act → World → Prop} {a : Act} {w : World} {l : List Oper} (n : Nat) (hm : P.follows .mixedOrders = true) (hn : n < l.length) (hB : ctailB (l.take n).toArray l.toArray n (l.length - n) = true)
    (h : wpQuiet P (l.take n).toArray (fun w' => ∃ k, w' = w.drewN k) (fun a' => ∀ w', (∃ k, w' = w.drewN k) → wpList P l.toArray Q (l.drop n) a' w') (l.take n) a) : (Code.region id l.toArray true).wp P Q a w :=
  region_ctail (C := fun w' => ∃ k, w' = w.drewN k) n hm hn hB ⟨1, rfl⟩ h
/-- The first ones draw, and lay new blocks. -/
theorem region_gtail {id : Nat} {Q : Exit → Act → World → Prop} {a : Act} {w : World} {l : List Oper} (n : Nat) (hm : P.follows .mixedOrders = true) (hn : n < l.length) (hB : ctailB (l.take n).toArray l.toArray n (l.length - n) = true)
    (h : wpQuiet P (l.take n).toArray (fun w' => ∃ p : GrownBy, w' = grow (w.drewN p.n) p.os) (fun a' => ∀ w', (∃ p : GrownBy, w' = grow (w.drewN p.n) p.os) → wpList P l.toArray Q (l.drop n) a' w') (l.take n) a) : (Code.region id l.toArray true).wp P Q a w :=
  region_ctail (C := fun w' => ∃ p : GrownBy, w' = grow (w.drewN p.n) p.os) n hm hn hB ⟨⟨1, #[]⟩, by rw [grow_empty]; rfl⟩ h
end Go.Proofs.YthofdmepofepgaaDoor
