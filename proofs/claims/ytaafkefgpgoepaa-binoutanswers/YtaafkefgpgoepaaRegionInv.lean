/- A region that draws its order, walked by what each slot holds: one obligation an operation, whatever order is drawn. Our own, over the library's theorem on orders. Conditions: each operation writes a slot of its own; nothing that was there is written. -/
import Derived.Test.YtaafkefgpgoepaaG04Joined
import Derived.Test.YtaafkefgpgoepaaG00Joined
namespace Go.Proofs.Ytaafkefgpgoepaa
set_option linter.unusedVariables false
open Go.RowKit Go.Shelf

/-- An activation told by what each slot holds. -/
def actOf (N : Nat) (f : Nat → Value) : Act := { tmps := ((List.range N).map f).toArray, defers := [] }
def putF (f : Nat → Value) (d : Nat) (v : Value) : Nat → Value := fun k => if k = d then v else f k
theorem actOf_put {N d : Nat} (f : Nat → Value) (v : Value) (h : d < N) : (actOf N f).put (some d) v = actOf N (putF f d v) := by
  suffices h9 : (((List.range N).map f).toArray).setIfInBounds d v = ((List.range N).map (putF f d v)).toArray by
    unfold actOf Act.put
    simp only [h9]
  apply Array.ext
  · simp
  · intro i h1 h2
    have hi : i < N := by simpa using h2
    rw [← Option.some.injEq, ← Array.getElem?_eq_getElem h1, ← Array.getElem?_eq_getElem h2, Array.getElem?_setIfInBounds]
    by_cases e : d = i
    · subst e
      simp [putF, hi]
    · rw [if_neg e]
      have e2 : ¬ i = d := fun h => e h.symm
      simp [putF, hi, e2]
/-- The slot that number i writes. -/
def dstOf (ops : Array Oper) (i : Nat) : Nat := ((ops[i]?).bind (·.dst)).getD 0
/-- Whether no operation writes slot k. -/
def noDst (ops : Array Oper) (k : Nat) : Bool := (List.range ops.size).all fun i => dstOf ops i != k
theorem noDst_of {ops : Array Oper} {k i : Nat} (h : noDst ops k = true) (hi : i < ops.size) : dstOf ops i ≠ k := by
  unfold noDst at h
  rw [List.all_eq_true] at h
  simpa using h i (List.mem_range.2 hi)
/-- Whether number i waits for number j. -/
def depB (ops : Array Oper) (i j : Nat) : Bool := ((ops[i]?).map fun o => o.after.any fun e => Region.binds .any e && e.on == j).getD false
/-- Each writes a slot of its own, and none waits for a later one. -/
def invB (ops : Array Oper) (N : Nat) : Bool :=
  (List.range ops.size).all fun i => ((ops[i]?).map fun o => (o.dst.map (fun d => decide (d < N))).getD false && o.after.all fun e => !Region.binds .any e || decide (e.on < i)).getD false && (List.range i).all fun j => dstOf ops i != dstOf ops j
structure InvOk (ops : Array Oper) (N i : Nat) (o : Oper) : Prop where
  dst : o.dst = some (dstOf ops i)
  lt : dstOf ops i < N
  low : ∀ e ∈ o.after, Region.binds .any e = true → e.on < i
  own : ∀ j, j < i → dstOf ops i ≠ dstOf ops j
theorem invOk_of {ops : Array Oper} {N i : Nat} {o : Oper} (h : invB ops N = true) (ho : ops[i]? = some o) : InvOk ops N i o := by
  have hi : i < ops.size := (Array.getElem?_eq_some_iff.1 ho).1
  unfold invB at h
  rw [List.all_eq_true] at h
  have h1 := h i (List.mem_range.2 hi)
  rw [ho] at h1
  simp only [Option.map_some, Option.getD_some, Bool.and_eq_true, Array.all_eq_true_iff_forall_mem, List.all_eq_true, List.mem_range, Bool.or_eq_true, Bool.not_eq_true', decide_eq_true_eq, bne_iff_ne, ne_eq] at h1
  obtain ⟨⟨h3, h4⟩, h5⟩ := h1
  cases hd : o.dst with
  | none => rw [hd] at h3; simp at h3
  | some d =>
    have e : dstOf ops i = d := by unfold dstOf; rw [ho]; simp [hd]
    refine ⟨by rw [e, hd], ?_, fun x hx hb => ?_, h5⟩
    · rw [hd] at h3
      rw [e]
      simpa using h3
    · rcases h4 x hx with h6 | h6
      · rw [hb] at h6; cases h6
      · exact h6
theorem count_set {L : Array Bool} {i : Nat} (h : L.getD i true = false) : (L.setIfInBounds i true).toList.countP (fun b => !b) + 1 = L.toList.countP (fun b => !b) := by
  have hi : i < L.size := by
    rcases Nat.lt_or_ge i L.size with h1 | h1
    · exact h1
    · simp [Array.getElem?_eq_none h1] at h
  have hv : L.toList[i]'(by simpa using hi) = false := by
    simp [hi] at h
    simpa using h
  have hpos : 0 < L.toList.countP (fun b => !b) := List.countP_pos_iff.2 ⟨_, List.getElem_mem (by simpa using hi), by rw [hv]; rfl⟩
  rw [Array.toList_setIfInBounds, List.countP_set (h := by simpa using hi)]
  rw [hv]
  simp only [Bool.not_false, if_true, Bool.not_true, Bool.false_eq_true, if_false, Nat.add_zero]
  omega
theorem listed_of_ready {ops : Array Oper} {N : Nat} {L : Array Bool} (h : invB ops N = true) (hs : L.size = ops.size) (hr : Region.ready .any ops L = []) : ∀ i, i < ops.size → L.getD i false = true := by
  intro i
  induction i using Nat.strongRecOn with
  | _ i ih =>
    intro hi
    have ho : ops[i]? = some ops[i] := Array.getElem?_eq_getElem hi
    have ok := invOk_of h ho
    by_cases hl : L.getD i true = false
    · have : i ∈ Region.ready .any ops L := mem_ready.2 ⟨hl, _, ho, fun e he hb => ih e.on (ok.low e he hb) (Nat.lt_trans (ok.low e he hb) hi)⟩
      rw [hr] at this
      cases this
    · have hi2 : i < L.size := by omega
      simp [hi2] at hl ⊢
      exact hl
/-- What stays of a walk through a region: the worlds only grow, slots that no operation writes stay, each that came up holds what it should. -/
structure RInv (ops : Array Oper) (Sp : Nat → Value → World → Prop) (f0 : Nat → Value) (w0 : World) (L : Array Bool) (f : Nat → Value) (w : World) : Prop where
  gr : w0.grownBy w none
  fix : ∀ k, noDst ops k = true → f k = f0 k
  sp : ∀ i, i < ops.size → L.getD i false = true → Sp i (f (dstOf ops i)) w
section
variable {P : Program} {ops : Array Oper} {Q : Exit → Act → World → Prop} {Sp : Nat → Value → World → Prop} {f0 : Nat → Value} {w0 : World} {N : Nat}
theorem wpAny_inv (hB : invB ops N = true) (mono : ∀ i v w w', w.grownBy w' none → Sp i v w → Sp i v w')
    (step : ∀ i o, ops[i]? = some o → ∀ f w, w0.grownBy w none → (∀ k, noDst ops k = true → f k = f0 k) → (∀ j, depB ops i j = true → Sp j (f (dstOf ops j)) w) → Region.wanted o (yielded ops (actOf N f).tmps) = true ∧ o.wp P (actOf N f) w (fun a' w' => ∃ v, a' = (actOf N f).put o.dst v ∧ w.grownBy w' none ∧ Sp i v w') Q ∨ Region.wanted o (yielded ops (actOf N f).tmps) = false ∧ Sp i undef w)
    (fin : ∀ f w, w0.grownBy w none → (∀ k, noDst ops k = true → f k = f0 k) → (∀ j, j < ops.size → Sp j (f (dstOf ops j)) w) → Q .normal (actOf N f) w) :
    ∀ (fuel : Nat) (L : Array Bool) (f : Nat → Value) (w : World), L.size = ops.size → L.toList.countP (fun b => !b) ≤ fuel → RInv ops Sp f0 w0 L f w → wpAny P .any ops Q fuel L (actOf N f) w := by
  intro fuel
  induction fuel with
  | zero =>
    intro L f w hs hc inv
    have h0 : Region.ready .any ops L = [] := by
      rw [List.eq_nil_iff_forall_not_mem]
      intro i hi
      have := count_set (mem_ready.1 hi).1
      omega
    exact ⟨h0, fin f w inv.gr inv.fix fun j hj => inv.sp j hj (listed_of_ready hB hs h0 j hj)⟩
  | succ fuel ih =>
    intro L f w hs hc inv
    refine ⟨fun h0 => fin f w inv.gr inv.fix fun j hj => inv.sp j hj (listed_of_ready hB hs h0 j hj), fun i hi => ?_⟩
    obtain ⟨hu, o, ho, hdep⟩ := mem_ready.1 hi
    have hlt : i < ops.size := (Array.getElem?_eq_some_iff.1 ho).1
    have ok := invOk_of hB ho
    have h := step i o ho f w inv.gr inv.fix fun j hj => by
      unfold depB at hj
      rw [ho] at hj
      simp only [Option.map_some, Option.getD_some, Array.any_eq_true'] at hj
      obtain ⟨e, he, hb⟩ := hj
      simp only [Bool.and_eq_true, beq_iff_eq] at hb
      have hl := ok.low e he hb.1
      rw [hb.2] at hl
      exact inv.sp j (Nat.lt_trans hl hlt) (by rw [← hb.2]; exact hdep e he hb.1)
    have key : ∀ a' w', (∃ v, a' = (actOf N f).put o.dst v ∧ w.grownBy w' none ∧ Sp i v w') → wpAny P .any ops Q fuel (L.setIfInBounds i true) a' w' := by
      rintro a' w' ⟨v, rfl, hg, hv⟩
      rw [ok.dst, actOf_put f v ok.lt]
      have hc' := count_set hu
      refine ih _ _ w' (by simp [hs]) (by omega) ⟨gr_trans inv.gr hg, fun k hk => ?_, fun j hj hl => ?_⟩
      · unfold putF
        rw [if_neg (fun e => noDst_of hk hlt e.symm)]
        exact inv.fix k hk
      · by_cases e : j = i
        · subst e
          unfold putF
          rw [if_pos rfl]
          exact hv
        · have hne : dstOf ops j ≠ dstOf ops i := by
            rcases Nat.lt_or_gt_of_ne e with h1 | h1
            · exact fun x => ok.own j h1 x.symm
            · exact (invOk_of hB (Array.getElem?_eq_getElem hj)).own i h1
          unfold putF
          rw [if_neg hne]
          refine mono j _ w w' hg (inv.sp j hj ?_)
          rwa [getD_set_ne false (fun h => e h.symm)] at hl
    unfold wpOp
    simp only [ho]
    rcases h with ⟨hwt, h⟩ | ⟨hwt, h⟩
    rotate_left 1
    · rw [if_neg (by rw [hwt]; decide)]
      exact key _ _ ⟨undef, rfl, gr_refl _ _, h⟩
    rw [if_pos hwt]
    refine .inl ?_
    unfold Oper.wp at h ⊢
    generalize (execOp (actOf N f).eval o).run P w = r at *
    cases r with
    | ok n w' =>
      cases n <;> simp only [Oper.upon] at h ⊢ <;>
        first
          | exact key _ _ h
          | exact Calls.mono h (fun e w'' he => by cases e <;> first | exact key _ _ he | exact he)
          | exact Rows.mono h (fun _ _ he => key _ _ he)
    | halt x w' => cases x <;> simp only [Oper.upon] at h ⊢ <;> exact h
/-- One obligation for each operation of a list. -/
def stepsP (C : Nat → Oper → Prop) : Nat → List Oper → Prop
  | _, [] => True
  | k, o :: l => C k o ∧ stepsP C (k + 1) l
theorem stepsP_at {C : Nat → Oper → Prop} : ∀ (l : List Oper) (k : Nat), stepsP C k l → ∀ i o, l[i]? = some o → C (k + i) o
  | [], _, _, i, o, h => by simp at h
  | x :: l, k, hs, 0, o, h => by
    obtain rfl : x = o := by simpa using h
    exact hs.1
  | x :: l, k, hs, i + 1, o, h => by
    have := stepsP_at l (k + 1) hs.2 i o (by simpa using h)
    rwa [show k + 1 + i = k + (i + 1) by omega] at this
theorem act_as (N : Nat) (tmps : Array Value) (hs : tmps.size = N) : ({ tmps := tmps, defers := [] } : Act) = actOf N (fun k => tmps.getD k undef) := by
  unfold actOf
  congr 1
  apply Array.ext
  · simp [hs]
  · intro i h1 h2
    simp [h1]
/-- What is asked of one operation. -/
def StepP (P : Program) (ops : Array Oper) (Q : Exit → Act → World → Prop) (Sp : Nat → Value → World → Prop) (f0 : Nat → Value) (w : World) (N : Nat) (i : Nat) (o : Oper) : Prop :=
  ∀ f u, w.grownBy u none → (∀ k, noDst ops k = true → f k = f0 k) → (∀ j, depB ops i j = true → Sp j (f (dstOf ops j)) u) → Region.wanted o (yielded ops (actOf N f).tmps) = true ∧ o.wp P (actOf N f) u (fun a' w' => ∃ v, a' = (actOf N f).put o.dst v ∧ u.grownBy w' none ∧ Sp i v w') Q ∨ Region.wanted o (yielded ops (actOf N f).tmps) = false ∧ Sp i undef u
/-- The region, by what each slot holds. -/
theorem wp_region_inv {id : Nat} {l : List Oper} {tmps : Array Value} {w : World} (hm : P.follows .mixedOrders = true) (hs : tmps.size = N) (hB : invB l.toArray N = true) (mono : ∀ i v w w', w.grownBy w' none → Sp i v w → Sp i v w')
    (step : stepsP (StepP P l.toArray Q Sp (fun k => tmps.getD k undef) w N) 0 l)
    (fin : ∀ f u, w.grownBy u none → (∀ k, noDst l.toArray k = true → f k = tmps.getD k undef) → (∀ j, j < l.toArray.size → Sp j (f (dstOf l.toArray j)) u) → Q .normal (actOf N f) u) : (Code.region id l.toArray true).wp P Q { tmps := tmps, defers := [] } w := by
  rw [act_as N tmps hs]
  refine wp_region_any hm ?_
  refine wpAny_inv (w0 := w) (f0 := fun k => tmps.getD k undef) hB mono (fun i o ho => ?_) fin _ _ _ _ (by simp) (by
    rw [Array.toList_replicate, List.countP_replicate]
    simp) ⟨gr_of_below (Below.drew (Below.refl _ _)), fun k _ => rfl, fun i hi hl => ?_⟩
  · have := stepsP_at l 0 step i o (by simpa using ho)
    rwa [Nat.zero_add] at this
  · rw [getD_replicate_false] at hl
    cases hl
end
/-- Whether a guarded operation is carried out. -/
theorem wanted_at {ops : Array Oper} {N g d : Nat} {b c : Bool} {o : Oper} {z : Nat → Value} (ho : o.guard = some (g, b)) (hd : (ops[g]?).bind (·.dst) = some d) (hl : d < N) (hz : z d = .bool c) : Region.wanted o (yielded ops (actOf N z).tmps) = (c == b) := by
  have e : (actOf N z).tmps[d]? = some (.bool c) := by
    rw [← hz]
    unfold actOf
    simp [hl]
  unfold Region.wanted yielded
  simp only [ho, hd, Option.bind_some, e]
  cases c <;> cases b <;> rfl
/-- What each slot holds, as a list. -/
def SpL (l : List (Value → World → Prop)) (i : Nat) (v : Value) (w : World) : Prop := ∀ p, l[i]? = some p → p v w
theorem spL_at {l : List (Value → World → Prop)} {i : Nat} {v : Value} {w : World} {p : Value → World → Prop} (h : l[i]? = some p) (hp : p v w) : SpL l i v w := fun q hq => by
  rw [h] at hq
  cases hq
  exact hp
/-- What stays as the world grows. -/
def Mono (p : Value → World → Prop) : Prop := ∀ v w w', w.grownBy w' none → p v w → p v w'
theorem spL_mono {l : List (Value → World → Prop)} (h : ∀ p ∈ l, Mono p) (i : Nat) (v : Value) (w w' : World) (g : w.grownBy w' none) (hs : SpL l i v w) : SpL l i v w' := fun p hp => h p (List.mem_of_getElem? hp) v w w' g (hs p hp)
def EqV (c : Value) : Value → World → Prop := fun v _ => v = c
theorem mono_eq (c : Value) : Mono (EqV c) := fun _ _ _ _ h => h
theorem mono_nil : ∀ p ∈ ([] : List (Value → World → Prop)), Mono p := fun p h => by cases h
theorem mono_cons {p : Value → World → Prop} {l : List (Value → World → Prop)} (h : Mono p) (k : ∀ q ∈ l, Mono q) : ∀ q ∈ p :: l, Mono q := fun q hq => by
  rcases List.mem_cons.1 hq with rfl | h1
  · exact h
  · exact k q h1
end Go.Proofs.Ytaafkefgpgoepaa
