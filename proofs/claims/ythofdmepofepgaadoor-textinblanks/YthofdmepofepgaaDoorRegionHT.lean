/- A region that draws its order: its first operations in any order that is left to them, a condition on the world kept behind each, and the others, which wait for all ahead of them, behind. Our own, over the library's theorems on orders. Conditions: no guards among the first ones. -/
import Derived.Test.YthofdmepofepgaaDoorRegionCT
import Derived.OrdersHeld
import Derived.Deep.MidRow
namespace Go.Proofs.YthofdmepofepgaaDoor
open Go.RowKit Go.Shelf Go.Sort

variable {P : Program}
/-- Behind the first operations the others are walked. -/
abbrev HeadQ (P : Program) (ops : Array Oper) (Q : Exit → Act → World → Prop) (l : List Oper) : Exit → Act → World → Prop := Exit.then (wpList P ops Q l) Q
theorem head_out {ops : Array Oper} {Q : Exit → Act → World → Prop} {l : List Oper} : LetsOut (HeadQ P ops Q l) → LetsOut Q := fun ⟨a, w, h⟩ => ⟨a, w, h⟩
theorem ht_op {o : Oper} {a : Act} {w : World} {ops : Array Oper} {Q : Exit → Act → World → Prop} {l : List Oper} {K K' : Act → World → Prop} (hl : LetsOut (HeadQ P ops Q l) → LetsOut Q) (hK : ∀ a w, K a w → K' a w) (h : o.wp P a w K (HeadQ P ops Q l)) : o.wp P a w K' Q := by
  unfold Oper.wp at *
  generalize (execOp a.eval o).run P w = r at *
  cases r with
  | ok n w' =>
    cases n <;> simp only [Oper.upon] at h ⊢ <;>
      first
        | exact hK _ _ h
        | exact Calls.mono h (fun e w'' he => by cases e <;> first | exact hK _ _ he | exact hl he | exact he)
        | exact Rows.mono h (fun _ _ he => hK _ _ he)
  | halt x w' => cases x <;> simp only [Oper.upon] at h ⊢ <;> exact h
theorem ht_bridge {H ops : Array Oper} {n m : Nat} (ok : CTailOk H ops n m) (hn : H.size = n) (hm : 0 < m) (hsz : ops.size = n + m) (hhd : ∀ i, i < n → ops[i]? = H[i]?) {l : List Oper} (hl : l.length = m) (hat : ∀ j, l[j]? = ops[n + j]?) {S : World → Prop} {Q : Exit → Act → World → Prop} (hlo : LetsOut (HeadQ P ops Q l) → LetsOut Q) :
    ∀ (fuel : Nat) (L : Array Bool) (a : Act) (w : World), L.size = H.size → HeadInv .any ops n (L ++ Array.replicate m false) → wpAnyH P .any H (HeadQ P ops Q l) S fuel L a w →
      wpAny P .any ops Q (fuel + m) (L ++ Array.replicate m false) a w := by
  intro fuel
  induction fuel with
  | zero =>
    intro L a w hs inv h
    rw [Nat.zero_add]
    exact ct_done ok hn hl hat hs h.1 h.2
  | succ fuel ih =>
    intro L a w hs inv h
    by_cases hr : Region.ready .any H L = []
    · exact wpAny_fuel m _ _ _ _ (ct_done ok hn hl hat hs hr (h.1 hr))
    · obtain ⟨i0, hi0⟩ := List.exists_mem_of_ne_nil _ hr
      obtain ⟨u0, o0, ho0, hw0⟩ := mem_ready.1 hi0
      have lt0 : i0 < H.size := (Array.getElem?_eq_some_iff.1 ho0).1
      have hno := tail_waits ok.sink ok.chain (by omega) inv _ i0 rfl (by omega) (by rw [app_getD _ (by omega)]; exact u0)
      rw [show fuel + 1 + m = fuel + m + 1 by omega]
      refine ⟨fun h0 => ?_, fun i hi => ?_⟩
      · have : i0 ∈ Region.ready .any ops (L ++ Array.replicate m false) := by
          refine mem_ready.2 ⟨by rw [app_getD _ (by omega)]; exact u0, o0, by rw [hhd i0 (by omega)]; exact ho0, fun e he hb => ?_⟩
          have hlo := ok.low i0 o0 ho0 e he
          rw [app_getD _ (by omega)]
          exact hw0 e he hb
        rw [h0] at this
        cases this
      · have hlt : i < n := by
          rcases Nat.lt_or_ge i n with h1 | h1
          · exact h1
          · exact (hno i h1 hi).elim
        obtain ⟨u, o, ho, hw⟩ := mem_ready.1 hi
        rw [app_getD _ (by omega)] at u
        have ho' : H[i]? = some o := by rw [← hhd i hlt]; exact ho
        have hiH : i ∈ Region.ready .any H L := by
          refine mem_ready.2 ⟨u, o, ho', fun e he hb => ?_⟩
          have := hw e he hb
          have hlo := ok.low i o ho' e he
          rwa [app_getD _ (by omega)] at this
        have hq := h.2 i hiH
        have inv' := inv.set hi hlt
        rw [app_set (by omega)] at inv'
        have hg : o.guard = none := ok.guard i o ho'
        have hwt : ∀ y, Region.wanted o y = true := fun y => by simp [Region.wanted, hg]
        unfold wpOp at hq ⊢
        simp only [ho', hwt, if_true] at hq
        simp only [ho, hwt, if_true]
        refine hq.imp (ht_op hlo fun a' w' hk => ?_) fun h => ⟨h.1, hlo h.2⟩
        rw [app_set (by omega)]
        exact ih _ a' w' (by simp [hs]) inv' hk.2
/-- The first n in any order, S behind each of them; the last ones behind. -/
theorem region_htail {S : World → Prop} {id : Nat} {Q : Exit → Act → World → Prop} {a : Act} {w : World} {l : List Oper} (n : Nat) (hm : P.follows .mixedOrders = true) (hn : n < l.length) (hB : ctailB (l.take n).toArray l.toArray n (l.length - n) = true)
    (h : wpAnyH P .any (l.take n).toArray (HeadQ P l.toArray Q (l.drop n)) S n (Array.replicate n false) a w.drew) : (Code.region id l.toArray true).wp P Q a w := by
  have ok := ctailOk_of hB
  have h1 : (l.take n).toArray.size = n := by simp; omega
  have h2 : (l.take n).length = n := by simp; omega
  refine wp_region_any hm ?_
  have hinv : HeadInv .any l.toArray n (Array.replicate n false ++ Array.replicate (l.length - n) false) := by
    refine ⟨by simp; omega, fun j oj _ hl => ?_, fun t ht ht' => ?_⟩
    · have : ∀ (p q j : Nat), (Array.replicate p false ++ Array.replicate q false).getD j false = false := fun p q j => by
        rw [Array.replicate_append_replicate]
        exact getD_replicate_false _ _
      rw [this] at hl
      cases hl
    · have ht2 : t < l.length := by simpa using ht'
      rw [Array.replicate_append_replicate]
      exact getD_in (by simp; omega) (getD_replicate_false _ _)
  have := ht_bridge ok h1 (by omega) (by simp; omega) (fun i hi => by simp [hi]) (l := l.drop n) (by simp) (fun j => by simp) (S := S) (Q := Q) head_out n _ a w.drew (by simp; omega) hinv h
  rw [Array.replicate_append_replicate] at this
  have e1 : n + (l.length - n) = l.toArray.size := by simp; omega
  rw [e1] at this
  exact this
section
variable {md : Region.Mode} {ops : Array Oper} {Q : Exit → Act → World → Prop} {S : World → Prop}
/-- Number i first: it writes slot d. -/
theorem take_at (i d : Nat) {oi : Oper} {v : Value} {fuel : Nat} {listed : Array Bool} {a : Act} {w : World} (hi : ops[i]? = some oi) (hd : oi.dst = some d)
    (hs : Region.noSelect ops = true) (hf : Region.free md ops listed i = true) (hr : (Region.ready md ops listed).contains i = true)
    (hQ : ∀ c a w, Q (.panic c) (a.put (some d) v) w → Q (.panic c) a w) (hy : YieldsIf P ops S oi v a) (hS : S w)
    (h : wpAnyH P md ops Q S fuel (listed.setIfInBounds i true) (a.put (some d) v) w) : wpAnyH P md ops Q S (fuel + 1) listed a w :=
  wpAnyH_take hi hs hf hr (by rw [hd]; exact hQ) hy hS (by rw [hd]; exact h)
/-- One alone may come up. -/
theorem one_at (i : Nat) {o : Oper} {fuel : Nat} {listed : Array Bool} {a : Act} {w : World} (hr : Region.ready md ops listed = [i]) (ho : ops[i]? = some o) (hg : o.guard = none)
    (h : o.wp P a w (fun a' w' => S w' ∧ wpAnyH P md ops Q S fuel (listed.setIfInBounds i true) a' w') Q) : wpAnyH P md ops Q S (fuel + 1) listed a w := by
  refine wpAnyH_all hr (by simp) fun j hj => ?_
  obtain rfl : j = i := by simpa using hj
  unfold wpOp
  have hwt : ∀ y, Region.wanted o y = true := fun y => by simp [Region.wanted, hg]
  simp only [ho, hwt, if_true]
  exact .inl h
theorem wpOp_plain {i : Nat} {o : Oper} {a : Act} {w : World} {K : Act → World → Prop} (ho : ops[i]? = some o) (hg : o.guard = none) (h : o.wp P a w K Q) : wpOp P ops Q i K a w := by
  unfold wpOp
  have hwt : ∀ y, Region.wanted o y = true := fun y => by simp [Region.wanted, hg]
  simp only [ho, hwt, if_true]
  exact .inl h
/-- A call of a Go function, by its contract. -/
theorem oper_call (d : Nat) {o : Oper} {a : Act} {w : World} {K : Act → World → Prop} {f : FuncId} {args : Array Value} (hd : o.dst = some d) (hx : (execOp a.eval o).run P w = .ok (.enter f args) w) {Post : Ending → World → Prop} (hc : Calls P f args w Post) (h : ∀ e w', Post e w' → ∃ v, e = .returned v ∧ K (a.put (some d) v) w') : o.wp P a w K Q := by
  unfold Oper.wp
  rw [hx]
  refine hc.mono fun e w' he => ?_
  obtain ⟨v, rfl, hk⟩ := h e w' he
  show K (a.put o.dst v) w'
  rw [hd]
  exact hk
/-- An operation that yields a value. -/
theorem oper_value (d : Nat) {o : Oper} {a : Act} {w w' : World} {K : Act → World → Prop} {v : Value} (hd : o.dst = some d) (hx : (execOp a.eval o).run P w = .ok (.value v) w') (h : K (a.put (some d) v) w') : o.wp P a w K Q := by
  unfold Oper.wp
  rw [hx]
  show K (a.put o.dst v) w'
  rw [hd]
  exact h
end
end Go.Proofs.YthofdmepofepgaaDoor
