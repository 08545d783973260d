/- Memory in parts: what a part says hangs on its own blocks alone, and parts that stand beside each other share none. Conditions: none. -/
import Derived.Test.YthofdmepofepgaaDoorG03Joined
import Derived.Maps.AppendAt
import Derived.Laws.OwnMore
import Derived.RangeFuncNested
import Derived.RangeFuncBox
namespace Go.Proofs.YthofdmepofepgaaDoor
open Go.RowKit

structure Part where
  own : Nat → Prop
  q : World → Prop
  on : ∀ w1 w2 : World, q w1 → (∀ k, own k → w2.heap[k]? = w1.heap[k]?) → q w2
def Part.emp : Part := ⟨fun _ => False, fun _ => True, fun _ _ _ _ => trivial⟩
/-- Two parts beside each other. -/
def Part.and (A B : Part) : Part where
  own := fun k => A.own k ∨ B.own k
  q := fun w => A.q w ∧ B.q w ∧ ∀ k, A.own k → ¬ B.own k
  on := fun w1 w2 h hs => ⟨A.on w1 w2 h.1 fun k hk => hs k (.inl hk), B.on w1 w2 h.2.1 fun k hk => hs k (.inr hk), h.2.2⟩
/-- Where a statement stands that began at w0: nothing of that world is written, and all its parts are new. -/
structure Law (w0 w : World) (A : Part) : Prop where
  below : Below w0.heap.size w0 w
  q : A.q w
  lt : ∀ k, A.own k → w0.heap.size ≤ k ∧ k < w.heap.size
section
variable {w0 w w' w1 : World} {A A' B C R R' : Part}
theorem Law.start (w : World) : Law w w Part.emp := ⟨Below.refl _ _, trivial, fun _ h => h.elim⟩
theorem Law.ofBelow (h : Below w0.heap.size w0 w) : Law w0 w Part.emp := ⟨h, trivial, fun _ h => h.elim⟩
theorem Law.step (H : Law w0 w A) (hg : w.grownBy w' none) : Law w0 w' A :=
  ⟨gr_below H.below hg (fun _ e => by cases e), A.on w w' H.q fun k hk => hg.block k (H.lt k hk).2 (by simp), fun k hk => ⟨(H.lt k hk).1, Nat.lt_of_lt_of_le (H.lt k hk).2 hg.size⟩⟩
theorem Law.drew (H : Law w0 w A) : Law w0 w.drew A := H.step ⟨rfl, rfl, rfl, Nat.le_refl _, fun _ _ _ => rfl⟩
theorem Law.drewN (H : Law w0 w A) (j : Nat) : Law w0 (w.drewN j) A := H.step ⟨rfl, rfl, rfl, Nat.le_refl _, fun _ _ _ => rfl⟩
theorem Law.alloc (H : Law w0 w A) (o : Obj) : Law w0 (w.alloc o) A := H.step (World.grownBy_alloc w o none)
/-- The first part turns. -/
theorem Law.turn (H : Law w0 w (A.and R)) (hq : A'.q w') (hl : ∀ k, A'.own k → k < w'.heap.size) (hg : Gr A.own w w') (hgr : Grew w A.own A'.own) : Law w0 w' (A'.and R) := by
  refine ⟨Gr.below H.below hg (fun k hk => (H.lt k (.inl hk)).1), ⟨hq, R.on w w' H.q.2.1 fun k hk => hg.block k (H.lt k (.inr hk)).2 (fun ha => H.q.2.2 k ha hk), fun k ha hr => ?_⟩, ?_⟩
  · rcases hgr k ha with h | h
    · exact H.q.2.2 k h hr
    · exact Nat.not_lt_of_le h (H.lt k (.inr hr)).2
  · rintro k (hk | hk)
    · refine ⟨?_, hl k hk⟩
      rcases hgr k hk with h | h
      · exact (H.lt k (.inl h)).1
      · exact Nat.le_trans H.below.size h
    · exact ⟨(H.lt k (.inr hk)).1, Nat.lt_of_lt_of_le (H.lt k (.inr hk)).2 hg.size⟩
/-- A new part. -/
theorem Law.new (H : Law w0 w R) (hg : w.grownBy w' none) (hq : A.q w') (hn : ∀ k, A.own k → w.heap.size ≤ k ∧ k < w'.heap.size) : Law w0 w' (A.and R) := by
  have S := H.step hg
  refine ⟨S.below, ⟨hq, S.q, fun k ha hr => Nat.not_lt_of_le (hn k ha).1 (H.lt k hr).2⟩, ?_⟩
  rintro k (hk | hk)
  · exact ⟨Nat.le_trans H.below.size (hn k hk).1, (hn k hk).2⟩
  · exact S.lt k hk
theorem Law.comm (H : Law w0 w (A.and B)) : Law w0 w (B.and A) := ⟨H.below, ⟨H.q.2.1, H.q.1, fun k hb ha => H.q.2.2 k ha hb⟩, fun k hk => H.lt k hk.symm⟩
theorem Law.rot (H : Law w0 w (A.and (B.and C))) : Law w0 w (B.and (A.and C)) := by
  obtain ⟨hA, ⟨hB, hC, hBC⟩, hx⟩ := H.q
  refine ⟨H.below, ⟨hB, ⟨hA, hC, fun k ha hc => hx k ha (.inr hc)⟩, ?_⟩, ?_⟩
  · rintro k hb (ha | hc)
    · exact hx k ha (.inl hb)
    · exact hBC k hb hc
  · rintro k (hk | hk | hk)
    · exact H.lt k (.inr (.inl hk))
    · exact H.lt k (.inl hk)
    · exact H.lt k (.inr (.inr hk))
theorem and_rot_q {w : World} {B C D : Part} (h : (B.and (C.and D)).q w) : (C.and (B.and D)).q w := by
  obtain ⟨hA, ⟨hB, hC, hBC⟩, hx⟩ := h
  refine ⟨hB, ⟨hA, hC, fun k ha hc => hx k ha (.inr hc)⟩, ?_⟩
  rintro k hb (ha | hc)
  · exact hx k ha (.inl hb)
  · exact hBC k hb hc
theorem and_rot_own {B C D : Part} (k : Nat) (h : (C.and (B.and D)).own k) : (B.and (C.and D)).own k := by
  rcases h with h | h | h
  · exact .inr (.inl h)
  · exact .inl h
  · exact .inr (.inr h)
theorem Law.assoc (H : Law w0 w ((A.and B).and C)) : Law w0 w (A.and (B.and C)) := by
  obtain ⟨⟨hA, hB, hAB⟩, hC, hx⟩ := H.q
  refine ⟨H.below, ⟨hA, ⟨hB, hC, fun k hb hc => hx k (.inr hb) hc⟩, ?_⟩, ?_⟩
  · rintro k ha (hb | hc)
    · exact hAB k ha hb
    · exact hx k (.inl ha) hc
  · rintro k (hk | hk | hk)
    · exact H.lt k (.inl (.inl hk))
    · exact H.lt k (.inl (.inr hk))
    · exact H.lt k (.inr hk)
theorem Law.unassoc (H : Law w0 w (A.and (B.and C))) : Law w0 w ((A.and B).and C) := by
  obtain ⟨hA, ⟨hB, hC, hBC⟩, hx⟩ := H.q
  refine ⟨H.below, ⟨⟨hA, hB, fun k ha hb => hx k ha (.inl hb)⟩, hC, ?_⟩, ?_⟩
  · rintro k (ha | hb) hc
    · exact hx k ha (.inr hc)
    · exact hBC k hb hc
  · rintro k ((hk | hk) | hk)
    · exact H.lt k (.inl hk)
    · exact H.lt k (.inr (.inl hk))
    · exact H.lt k (.inr (.inr hk))
theorem Law.left (H : Law w0 w (A.and B)) : Law w0 w A := ⟨H.below, H.q.1, fun k hk => H.lt k (.inl hk)⟩
theorem Law.right (H : Law w0 w (A.and B)) : Law w0 w B := ⟨H.below, H.q.2.1, fun k hk => H.lt k (.inr hk)⟩
theorem Law.drop2 (H : Law w0 w (A.and (B.and C))) : Law w0 w (A.and C) := H.rot.right
/-- Less is known. -/
theorem Law.weak (H : Law w0 w A) (hq : A.q w → B.q w) (ho : ∀ k, B.own k → A.own k) : Law w0 w B := ⟨H.below, hq H.q, fun k hk => H.lt k (ho k hk)⟩
theorem Law.weak1 (H : Law w0 w (A.and R)) (hq : A.q w → A'.q w) (ho : ∀ k, A'.own k → A.own k) : Law w0 w (A'.and R) :=
  ⟨H.below, ⟨hq H.q.1, H.q.2.1, fun k ha hr => H.q.2.2 k (ho k ha) hr⟩, fun k hk => H.lt k (hk.imp (ho k) id)⟩
theorem Law.in1 (H : Law w0 w (A.and R)) (hq : R.q w → R'.q w) (ho : ∀ k, R'.own k → R.own k) : Law w0 w (A.and R') := (H.comm.weak1 hq ho).comm
theorem Law.inAssoc {D : Part} (H : Law w0 w (A.and ((B.and C).and D))) : Law w0 w (A.and (B.and (C.and D))) := by
  refine H.in1 (fun hq => ?_) fun k hk => ?_
  · obtain ⟨⟨hA, hB, hAB⟩, hC, hx⟩ := hq
    refine ⟨hA, ⟨hB, hC, fun k hb hc => hx k (.inr hb) hc⟩, ?_⟩
    rintro k ha (hb | hc)
    · exact hAB k ha hb
    · exact hx k (.inl ha) hc
  · rcases hk with hk | hk | hk
    · exact .inl (.inl hk)
    · exact .inl (.inr hk)
    · exact .inr hk
theorem Law.inUnassoc {D : Part} (H : Law w0 w (A.and (B.and (C.and D)))) : Law w0 w (A.and ((B.and C).and D)) := by
  refine H.in1 (fun hq => ?_) fun k hk => ?_
  · obtain ⟨hA, ⟨hB, hC, hBC⟩, hx⟩ := hq
    refine ⟨⟨hA, hB, fun k ha hb => hx k ha (.inl hb)⟩, hC, ?_⟩
    rintro k (ha | hb) hc
    · exact hx k ha (.inr hc)
    · exact hBC k hb hc
  · rcases hk with (hk | hk) | hk
    · exact .inl hk
    · exact .inr (.inl hk)
    · exact .inr (.inr hk)
/-- The second and the third part change places. -/
theorem Law.rin {D : Part} (H : Law w0 w (A.and (B.and (C.and D)))) : Law w0 w (A.and (C.and (B.and D))) := H.in1 (fun h => and_rot_q h) fun k hk => and_rot_own k hk
end
theorem own_same {w w' : World} {n0 n size : Nat} {e : TypeId} {v : Value} {xs : List Value} (h : w.ownsRow n0 e size v n xs) (hs : ∀ k, v.ownBlock = some k → w'.heap[k]? = w.heap[k]?) : w'.ownsRow n0 e size v n xs := by
  refine ⟨h.1, ?_⟩
  rcases h.2 with h1 | ⟨g, cap, cur, hv, h2, h3, h4⟩
  · exact .inl h1
  · exact .inr ⟨g, cap, cur, hv, h2, (hs g (by rw [hv]; rfl)).trans h3, h4⟩
theorem own_form {W : World} {base : Nat} {e : TypeId} {size : Nat} {v : Value} {k : Nat} {xs : List Value} (h : W.ownsRow base e size v k xs) (hk : 0 < k) : ∃ g cap, v = .slice (some ⟨g, 0, none⟩) k cap := by
  rcases h.2 with h1 | ⟨g, cap, cur, hv, h2, h3, h4⟩
  · omega
  · exact ⟨g, cap, hv⟩
theorem own_shape {W : World} {base : Nat} {e : TypeId} {size : Nat} {v : Value} {k : Nat} {xs : List Value} (h : W.ownsRow base e size v k xs) : ∃ a cap, v = .slice a k cap := by
  rcases h.2 with ⟨hv, h1⟩ | ⟨g, cap, cur, hv, h2, h3, h4⟩
  · exact ⟨none, 0, by rw [hv, h1]⟩
  · exact ⟨_, cap, hv⟩
theorem own_cap {w : World} {base n cap size : Nat} {a : Option Addr} {e : TypeId} {xs : List Value} (h : w.ownsRow base e size (.slice a n cap) n xs) : n ≤ cap ∧ cap ≤ maxLen := by
  rcases h.2 with ⟨h1, h2⟩ | ⟨g', cap', cur, hv, _, _, h4, h5, _⟩
  · cases h1
    exact ⟨Nat.le_refl _, Nat.zero_le _⟩
  · cases hv
    exact ⟨h4, h5⟩
theorem own_at {W : World} {base : Nat} {e : TypeId} {size : Nat} {v : Value} {n k : Nat} {xs : List Value} (h : W.ownsRow base e size v n xs) (hk : v.ownBlock = some k) : base ≤ k ∧ k < W.heap.size ∧ ∃ o : Obj, W.heap[k]? = some o ∧ o.isCells = true := by
  rcases h.2 with ⟨hv, h1⟩ | ⟨g, cap, cur, hv, h2, h3, h4⟩
  · rw [hv] at hk
    cases hk
  · rw [hv] at hk
    cases hk
    exact ⟨h2, (Array.getElem?_eq_some_iff.1 h3).1, _, h3, rfl⟩
/-- A block. -/
def boxP (k : Nat) (o : Obj) : Part := ⟨fun j => j = k, fun w => w.heap[k]? = some o, fun _ _ h hs => (hs k rfl).trans h⟩
/-- A slice that owns its row, from block n0 on. -/
def rowP (n0 : Nat) (e : TypeId) (size : Nat) (v : Value) (n : Nat) (xs : List Value) : Part := ⟨fun k => v.ownBlock = some k, fun w => w.ownsRow n0 e size v n xs, fun _ _ h hs => own_same h hs⟩
section
variable {w0 w w' w1 : World} {A A' B C R R' : Part} {e t : TypeId} {size n m n0 k : Nat} {v v' x y : Value} {xs ys : List Value} {tmp : Obj}
theorem Law.box (H : Law w0 w R) (o : Obj) : Law w0 (w.alloc o) ((boxP w.heap.size o).and R) :=
  H.new (World.grownBy_alloc w o none) (World.alloc_heap_new w o) (by rintro k rfl; rw [World.size_alloc]; exact ⟨Nat.le_refl _, Nat.lt_succ_self _⟩)
theorem Law.nil (H : Law w0 w R) : Law w0 w ((rowP n0 e size (.slice none 0 0) 0 []).and R) :=
  ⟨H.below, ⟨World.ownsRow_nil _ _ _ _, H.q, fun k ha => by cases ha⟩, fun k hk => hk.elim (fun h => by cases h) (H.lt k)⟩
theorem Law.set (H : Law w0 w ((boxP k (.cells #[x] t)).and R)) (y : Value) : Law w0 (w.setCell ⟨k, 0, none⟩ y) ((boxP k (.cells #[y] t)).and R) := by
  have hb : Boxed w k t x := H.q.1
  refine H.turn (A' := boxP k (.cells #[y] t)) (show Boxed _ k t y from hb.set y) (fun j hj => ?_) ?_ fun j hj => .inl hj
  · rw [World.size_setCell]
    exact (H.lt j (.inl hj)).2
  · have hg := grownBy_setCell' w k y
    exact ⟨hg.1, hg.2, hg.3, hg.4, fun j hj hn => hg.5 j hj (fun e => hn (by cases e; rfl))⟩
theorem Law.setAt {cs : Array Value} (H : Law w0 w ((boxP k (.cells cs t)).and R)) (i : Nat) (y : Value) : Law w0 (w.setCell ⟨k, i, none⟩ y) ((boxP k (.cells (cs.setIfInBounds i y) t)).and R) := by
  refine H.turn (A' := boxP k (.cells (cs.setIfInBounds i y) t)) (heap_setCell_same w k i cs t y H.q.1) (fun j hj => ?_) ?_ fun j hj => .inl hj
  · rw [World.size_setCell]
    exact (H.lt j (.inl hj)).2
  · exact ⟨rfl, rfl, rfl, by rw [World.size_setCell]; exact Nat.le_refl _, fun j _ hn => heap_setCell_other _ _ _ _ hn⟩
/-- More is appended to the first part's row. -/
theorem Law.app (H : Law w0 w ((rowP n0 e size v n xs).and R)) (hown : w1.ownsRow n0 e size v' m ys) (hgrow : (w.alloc tmp).grownBy w1 v.ownBlock) (hat : v'.ownBlock = v.ownBlock ∨ v'.ownBlock = some (w.alloc tmp).heap.size) : Law w0 w1 ((rowP n0 e size v' m ys).and R) := by
  have hsa : (w.alloc tmp).heap.size = w.heap.size + 1 := World.size_alloc _ _
  have hs1 := hgrow.size
  refine H.turn hown (fun k hk => (own_at hown hk).2.1) ⟨hgrow.1, hgrow.2, hgrow.3, by omega, fun k hk hr => (hgrow.block k (by omega) (fun e => hr e.symm)).trans (Below.heap_alloc _ _ _ hk)⟩ fun k hk => ?_
  rcases hat with h | h
  · exact .inl (h.symm.trans hk)
  · have hk' : v'.ownBlock = some k := hk
    rw [h] at hk'
    cases hk'
    exact .inr (by omega)
/-- The same where nothing was laid ahead of it. -/
theorem Law.app0 (H : Law w0 w ((rowP n0 e size v n xs).and R)) (hown : w1.ownsRow n0 e size v' m ys) (hgrow : w.grownBy w1 v.ownBlock) (hat : v'.ownBlock = v.ownBlock ∨ v'.ownBlock = some w.heap.size) : Law w0 w1 ((rowP n0 e size v' m ys).and R) := by
  refine H.turn hown (fun k hk => (own_at hown hk).2.1) ⟨hgrow.1, hgrow.2, hgrow.3, hgrow.size, fun k hk hr => hgrow.block k hk (fun e => hr e.symm)⟩ fun k hk => ?_
  rcases hat with h | h
  · exact .inl (h.symm.trans hk)
  · have hk' : v'.ownBlock = some k := hk
    rw [h] at hk'
    cases hk'
    exact .inr (Nat.le_refl _)
end
/-- No loop's record lies among its blocks. -/
def Part.firm (B : Nat) (A : Part) : Prop := ∀ (W : World) (k : Nat), A.q W → A.own k → k < B ∨ ∃ o : Obj, W.heap[k]? = some o ∧ o.isCells = true
theorem firm_and {B : Nat} {A C : Part} (h : A.firm B) (h' : C.firm B) : (A.and C).firm B := fun W k hq ho => ho.elim (h W k hq.1) (h' W k hq.2.1)
theorem firm_emp {B : Nat} : Part.emp.firm B := fun _ _ _ ho => ho.elim
theorem firm_box {B k : Nat} {cs : Array Value} {t : TypeId} {z : Nat × Nat} : (boxP k (.cells cs t z)).firm B := fun _ j hq ho => by
  obtain rfl : j = k := ho
  exact .inr ⟨_, hq, rfl⟩
theorem firm_row {B n0 : Nat} {e : TypeId} {size : Nat} {v : Value} {n : Nat} {xs : List Value} : (rowP n0 e size v n xs).firm B := fun _ _ hq ho => .inr (own_at hq ho).2.2
theorem firm_old {B : Nat} {A : Part} (h : ∀ k, A.own k → k < B) : A.firm B := fun _ k _ ho => .inl (h k ho)
theorem own_law {β : Type} {B : Nat} {w0 : World} {A : β → Part} (hB : w0.heap.size ≤ B) (hf : ∀ s, (A s).firm B) : OwnFrom B (fun s W => Law w0 W (A s)) := fun s W W' row hs hg hr => by
  have key : ∀ k, (A s).own k → W'.heap[k]? = W.heap[k]? := fun k hk => hg.block k (hs.lt k hk).2 (fun e => by
    obtain ⟨h1, o, ho, hc⟩ := hr k e.symm
    rcases hf s W k hs.q hk with h | ⟨o', ho', hc'⟩
    · omega
    · rw [ho] at ho'
      cases ho'
      rw [hc] at hc'
      cases hc')
  exact ⟨gr_below hs.below hg (fun r e => Nat.le_trans hB (hr r e).1), (A s).on W W' hs.q key, fun k hk => ⟨(hs.lt k hk).1, Nat.lt_of_lt_of_le (hs.lt k hk).2 hg.size⟩⟩
/-- What is kept in mind beside an iterator's own memory. -/
theorem lasts_law {α β : Type} {B : Nat} {w0 : World} {it : Part} {G : List α → β → Part} {C : List α → β → Prop} (hB : w0.heap.size ≤ B) (hit : ∀ k, it.own k → k < B) : ∀ pre V V' fp, (∃ v, fp = (G pre v).own ∧ Law w0 V (it.and (G pre v)) ∧ C pre v) → Gr (fun k => B ≤ k) V V' → (∀ k, fp k → V'.heap[k]? = V.heap[k]?) → ∃ v, fp = (G pre v).own ∧ Law w0 V' (it.and (G pre v)) ∧ C pre v := by
  rintro pre V V' fp ⟨v, rfl, H, hC⟩ hg hs
  refine ⟨v, rfl, ⟨Gr.below H.below hg (fun k hk => Nat.le_trans hB hk), ⟨it.on V V' H.q.1 fun k hk => hg.block k (H.lt k (.inl hk)).2 (by have := hit k hk; omega), (G pre v).on V V' H.q.2.1 hs, H.q.2.2⟩, fun k hk => ⟨(H.lt k hk).1, Nat.lt_of_lt_of_le (H.lt k hk).2 hg.size⟩⟩, hC⟩
theorem foot_law {α β : Type} {w0 : World} {it : Part} {G : List α → β → Part} {C : List α → β → Prop} : ∀ pre V fp, (∃ v, fp = (G pre v).own ∧ Law w0 V (it.and (G pre v)) ∧ C pre v) → ∀ k, fp k → k < V.heap.size ∧ ¬ it.own k := by
  rintro pre V fp ⟨v, rfl, H, hC⟩ k hk
  exact ⟨(H.lt k (.inr hk)).2, fun ho => H.q.2.2 k ho hk⟩
/-- One more is appended to a slice that lies in a box. -/
theorem app_store {w0 W w1 : World} {it R : Part} {n0 n m bo : Nat} {e t : TypeId} {size : Nat} {v v' : Value} {xs ys : List Value} {tmp : Obj} (H : Law w0 W (it.and ((rowP n0 e size v n xs).and ((boxP bo (.cells #[v] t)).and R))))
    (hown : w1.ownsRow n0 e size v' m ys) (hgrow : (W.alloc tmp).grownBy w1 v.ownBlock) (hat : v'.ownBlock = v.ownBlock ∨ v'.ownBlock = some (W.alloc tmp).heap.size) :
    Boxed w1 bo t v ∧ Law w0 (w1.setCell ⟨bo, 0, none⟩ v') (it.and ((rowP n0 e size v' m ys).and ((boxP bo (.cells #[v'] t)).and R))) ∧ Gr ((rowP n0 e size v n xs).and ((boxP bo (.cells #[v] t)).and R)).own W (w1.setCell ⟨bo, 0, none⟩ v') ∧
      Grew W ((rowP n0 e size v n xs).and ((boxP bo (.cells #[v] t)).and R)).own ((rowP n0 e size v' m ys).and ((boxP bo (.cells #[v'] t)).and R)).own := by
  have hsa : (W.alloc tmp).heap.size = W.heap.size + 1 := World.size_alloc _ _
  have hs1 := hgrow.size
  have H1 := (H.rot).app hown hgrow hat
  have H2 := H1.rin.rot
  refine ⟨H2.q.1, ((H2.set v').rin.rot.rin), ?_, ?_⟩
  · have g1 : Gr (fun k => v.ownBlock = some k) W w1 := ⟨hgrow.1, hgrow.2, hgrow.3, by omega, fun k hk hr => (hgrow.block k (by omega) (fun e => hr e.symm)).trans (Below.heap_alloc _ _ _ hk)⟩
    have g2 := grownBy_setCell' w1 bo v'
    have g3 : Gr (fun k => k = bo) w1 (w1.setCell ⟨bo, 0, none⟩ v') := ⟨g2.1, g2.2, g2.3, g2.4, fun j hj hn => g2.5 j hj (fun e => hn (by cases e; rfl))⟩
    have m1 : Gr ((rowP n0 e size v n xs).and ((boxP bo (.cells #[v] t)).and R)).own W w1 := ⟨g1.os, g1.tape, g1.output, g1.size, fun k hk hn => g1.block k hk fun h => hn (.inl h)⟩
    exact ⟨g3.os.trans m1.os, g3.tape.trans m1.tape, g3.output.trans m1.output, Nat.le_trans m1.size g3.size, fun k hk hn => (g3.block k (Nat.lt_of_lt_of_le hk m1.size) fun h => hn (.inr (.inl h))).trans (m1.block k hk hn)⟩
  · rintro k (hk | hk)
    · rcases hat with h | h
      · exact .inl (.inl (h.symm.trans hk))
      · have hk' : v'.ownBlock = some k := hk
        rw [h] at hk'
        cases hk'
        exact .inr (by omega)
    · exact .inl (.inr hk)
theorem own_ex {β γ : Type} {B : Nat} {I : β → γ → World → Prop} (h : OwnFrom B (fun (p : β × γ) W => I p.1 p.2 W)) : OwnFrom B (fun s W => ∃ x, I s x W) := fun s W W' row ⟨x, hs⟩ hg hr => ⟨x, h (s, x) W W' row hs hg hr⟩
end Go.Proofs.YthofdmepofepgaaDoor
