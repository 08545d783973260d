/- Memory in parts, as a function of the program that has blocks of its own sees it: what it writes was its own or is new. Conditions: none. -/
import Derived.Test.YthofdmepofepgaaDoorParts
namespace Go.Proofs.YthofdmepofepgaaDoor
open Go.RowKit

/-- Where a function stands that was called at w0 and owns the blocks F there. -/
structure LawF (F : Nat → Prop) (w0 w : World) (A : Part) : Prop where
  gr : Gr F w0 w
  q : A.q w
  lt : ∀ k, A.own k → k < w.heap.size ∧ (F k ∨ w0.heap.size ≤ k)
section
variable {F : Nat → Prop} {w0 w w' w1 : World} {A A' B C D R R' : Part}
theorem LawF.start {w : World} {A : Part} (h : A.q w) (hl : ∀ k, A.own k → k < w.heap.size) : LawF A.own w w A := ⟨Gr.refl _ _, h, fun k hk => ⟨hl k hk, .inl hk⟩⟩
theorem LawF.bare (w : World) : LawF (fun _ => False) w w Part.emp := ⟨Gr.refl _ _, trivial, fun _ h => h.elim⟩
/-- What a contract tells. -/
theorem LawF.grew (H : LawF F w0 w A) : Grew w0 F A.own := fun k hk => (H.lt k hk).2
theorem LawF.size (H : LawF F w0 w A) : w0.heap.size ≤ w.heap.size := H.gr.size
theorem LawF.step (H : LawF F w0 w A) (hg : w.grownBy w' none) : LawF F w0 w' A :=
  ⟨H.gr.then (Gr.of hg) (fun _ _ e => by cases e), A.on w w' H.q fun k hk => hg.block k (H.lt k hk).1 (by simp), fun k hk => ⟨Nat.lt_of_lt_of_le (H.lt k hk).1 hg.size, (H.lt k hk).2⟩⟩
theorem LawF.drew (H : LawF F w0 w A) : LawF F w0 w.drew A := H.step ⟨rfl, rfl, rfl, Nat.le_refl _, fun _ _ _ => rfl⟩
theorem LawF.drewN (H : LawF F w0 w A) (j : Nat) : LawF F w0 (w.drewN j) A := H.step ⟨rfl, rfl, rfl, Nat.le_refl _, fun _ _ _ => rfl⟩
theorem LawF.alloc (H : LawF F w0 w A) (o : Obj) : LawF F w0 (w.alloc o) A := H.step (World.grownBy_alloc w o none)
/-- The first part turns. -/
theorem LawF.turn (H : LawF F w0 w (A.and R)) (hq : A'.q w') (hl : ∀ k, A'.own k → k < w'.heap.size) (hg : Gr A.own w w') (hgr : Grew w A.own A'.own) : LawF F w0 w' (A'.and R) := by
  refine ⟨H.gr.then hg (fun i hi ha => (H.lt i (.inl ha)).2.elim id fun h => absurd hi (Nat.not_lt_of_le h)), ⟨hq, R.on w w' H.q.2.1 fun k hk => hg.block k (H.lt k (.inr hk)).1 (fun ha => H.q.2.2 k ha hk), fun k ha hr => ?_⟩, ?_⟩
  · rcases hgr k ha with h | h
    · exact H.q.2.2 k h hr
    · exact Nat.not_lt_of_le h (H.lt k (.inr hr)).1
  · rintro k (hk | hk)
    · refine ⟨hl k hk, ?_⟩
      rcases hgr k hk with h | h
      · exact (H.lt k (.inl h)).2
      · exact .inr (Nat.le_trans H.gr.size h)
    · exact ⟨Nat.lt_of_lt_of_le (H.lt k (.inr hk)).1 hg.size, (H.lt k (.inr hk)).2⟩
/-- A new part. -/
theorem LawF.new (H : LawF F w0 w R) (hg : w.grownBy w' none) (hq : A.q w') (hn : ∀ k, A.own k → w.heap.size ≤ k ∧ k < w'.heap.size) : LawF F w0 w' (A.and R) := by
  have S := H.step hg
  refine ⟨S.gr, ⟨hq, S.q, fun k ha hr => Nat.not_lt_of_le (hn k ha).1 (H.lt k hr).1⟩, ?_⟩
  rintro k (hk | hk)
  · exact ⟨(hn k hk).2, .inr (Nat.le_trans H.gr.size (hn k hk).1)⟩
  · exact S.lt k hk
/-- Less is known, or the same in other words. -/
theorem LawF.weak (H : LawF F w0 w A) (hq : A.q w → B.q w) (ho : ∀ k, B.own k → A.own k) : LawF F w0 w B := ⟨H.gr, hq H.q, fun k hk => H.lt k (ho k hk)⟩
theorem LawF.comm (H : LawF F w0 w (A.and B)) : LawF F w0 w (B.and A) := H.weak (fun h => ⟨h.2.1, h.1, fun k hb ha => h.2.2 k ha hb⟩) fun _ hk => hk.symm
theorem LawF.rot (H : LawF F w0 w (A.and (B.and C))) : LawF F w0 w (B.and (A.and C)) := H.weak (fun h => and_rot_q h) fun k hk => and_rot_own k hk
theorem LawF.left (H : LawF F w0 w (A.and B)) : LawF F w0 w A := H.weak (fun h => h.1) fun _ hk => .inl hk
theorem LawF.right (H : LawF F w0 w (A.and B)) : LawF F w0 w B := H.weak (fun h => h.2.1) fun _ hk => .inr hk
theorem LawF.weak1 (H : LawF F w0 w (A.and R)) (hq : A.q w → A'.q w) (ho : ∀ k, A'.own k → A.own k) : LawF F w0 w (A'.and R) := H.weak (fun h => ⟨hq h.1, h.2.1, fun k ha hr => h.2.2 k (ho k ha) hr⟩) fun k hk => hk.imp (ho k) id
theorem LawF.in1 (H : LawF F w0 w (A.and R)) (hq : R.q w → R'.q w) (ho : ∀ k, R'.own k → R.own k) : LawF F w0 w (A.and R') := (H.comm.weak1 hq ho).comm
theorem LawF.rin (H : LawF F w0 w (A.and (B.and (C.and D)))) : LawF F w0 w (A.and (C.and (B.and D))) := H.in1 (fun h => and_rot_q h) fun k hk => and_rot_own k hk
end
section
variable {F : Nat → Prop} {w0 w w' w1 : World} {A A' B C R R' : Part} {e t : TypeId} {size n m n0 k : Nat} {v v' x y : Value} {xs ys : List Value} {tmp : Obj}
theorem LawF.box (H : LawF F w0 w R) (o : Obj) : LawF F w0 (w.alloc o) ((boxP w.heap.size o).and R) :=
  H.new (World.grownBy_alloc w o none) (World.alloc_heap_new w o) (by rintro k rfl; rw [World.size_alloc]; exact ⟨Nat.le_refl _, Nat.lt_succ_self _⟩)
theorem LawF.nil (H : LawF F w0 w R) : LawF F w0 w ((rowP n0 e size (.slice none 0 0) 0 []).and R) :=
  ⟨H.gr, ⟨World.ownsRow_nil _ _ _ _, H.q, fun k ha => by cases ha⟩, fun k hk => hk.elim (fun h => by cases h) (H.lt k)⟩
theorem LawF.setAt {cs : Array Value} (H : LawF F w0 w ((boxP k (.cells cs t)).and R)) (i : Nat) (y : Value) : LawF F w0 (w.setCell ⟨k, i, none⟩ y) ((boxP k (.cells (cs.setIfInBounds i y) t)).and R) := by
  refine H.turn (A' := boxP k (.cells (cs.setIfInBounds i y) t)) (heap_setCell_same w k i cs t y H.q.1) (fun j hj => ?_) ?_ fun j hj => .inl hj
  · rw [World.size_setCell]
    exact (H.lt j (.inl hj)).1
  · exact ⟨rfl, rfl, rfl, by rw [World.size_setCell]; exact Nat.le_refl _, fun j _ hn => heap_setCell_other _ _ _ _ hn⟩
theorem LawF.app (H : LawF F w0 w ((rowP n0 e size v n xs).and R)) (hown : w1.ownsRow n0 e size v' m ys) (hgrow : (w.alloc tmp).grownBy w1 v.ownBlock) (hat : v'.ownBlock = v.ownBlock ∨ v'.ownBlock = some (w.alloc tmp).heap.size) : LawF F w0 w1 ((rowP n0 e size v' m ys).and R) := by
  have hsa : (w.alloc tmp).heap.size = w.heap.size + 1 := World.size_alloc _ _
  have hs1 := hgrow.size
  refine H.turn hown (fun k hk => (own_at hown hk).2.1) ⟨hgrow.1, hgrow.2, hgrow.3, by omega, fun k hk hr => (hgrow.block k (by omega) (fun e => hr e.symm)).trans (Below.heap_alloc _ _ _ hk)⟩ fun k hk => ?_
  rcases hat with h | h
  · exact .inl (h.symm.trans hk)
  · have hk' : v'.ownBlock = some k := hk
    rw [h] at hk'
    cases hk'
    exact .inr (by omega)
theorem LawF.app0 (H : LawF F w0 w ((rowP n0 e size v n xs).and R)) (hown : w1.ownsRow n0 e size v' m ys) (hgrow : w.grownBy w1 v.ownBlock) (hat : v'.ownBlock = v.ownBlock ∨ v'.ownBlock = some w.heap.size) : LawF F w0 w1 ((rowP n0 e size v' m ys).and R) := by
  refine H.turn hown (fun k hk => (own_at hown hk).2.1) ⟨hgrow.1, hgrow.2, hgrow.3, hgrow.size, fun k hk hr => hgrow.block k hk (fun e => hr e.symm)⟩ fun k hk => ?_
  rcases hat with h | h
  · exact .inl (h.symm.trans hk)
  · have hk' : v'.ownBlock = some k := hk
    rw [h] at hk'
    cases hk'
    exact .inr (Nat.le_refl _)
end
/-- The fourth part comes first. -/
theorem LawF.rot4 {F : Nat → Prop} {w0 w : World} {A B C D E : Part} (H : LawF F w0 w (A.and (B.and (C.and (D.and E))))) : LawF F w0 w (D.and (A.and (B.and (C.and E)))) := by
  refine H.weak (fun h => ?_) fun k hk => ?_
  · obtain ⟨hA, ⟨hB, ⟨hC, ⟨hD, hE, hDE⟩, hC2⟩, hB2⟩, hA2⟩ := h
    refine ⟨hD, ⟨hA, ⟨hB, ⟨hC, hE, fun k hc he => hC2 k hc (.inr he)⟩, ?_⟩, ?_⟩, ?_⟩
    · rintro k hb (hc | he)
      · exact hB2 k hb (.inl hc)
      · exact hB2 k hb (.inr (.inr he))
    · rintro k ha (hb | hc | he)
      · exact hA2 k ha (.inl hb)
      · exact hA2 k ha (.inr (.inl hc))
      · exact hA2 k ha (.inr (.inr (.inr he)))
    · rintro k hd (ha | hb | hc | he)
      · exact hA2 k ha (.inr (.inr (.inl hd)))
      · exact hB2 k hb (.inr (.inl hd))
      · exact hC2 k hc (.inl hd)
      · exact hDE k hd he
  · rcases hk with hk | hk | hk | hk | hk
    · exact .inr (.inr (.inr (.inl hk)))
    · exact .inl hk
    · exact .inr (.inl hk)
    · exact .inr (.inr (.inl hk))
    · exact .inr (.inr (.inr (.inr hk)))
/-- The first part becomes the fourth. -/
theorem LawF.unrot4 {F : Nat → Prop} {w0 w : World} {A B C D E : Part} (H : LawF F w0 w (D.and (A.and (B.and (C.and E))))) : LawF F w0 w (A.and (B.and (C.and (D.and E)))) := by
  refine H.weak (fun h => ?_) fun k hk => ?_
  · obtain ⟨hD, ⟨hA, ⟨hB, ⟨hC, hE, hCE⟩, hB2⟩, hA2⟩, hD2⟩ := h
    refine ⟨hA, ⟨hB, ⟨hC, ⟨hD, hE, fun k hd he => hD2 k hd (.inr (.inr (.inr he)))⟩, ?_⟩, ?_⟩, ?_⟩
    · rintro k hc (hd | he)
      · exact hD2 k hd (.inr (.inr (.inl hc)))
      · exact hCE k hc he
    · rintro k hb (hc | hd | he)
      · exact hB2 k hb (.inl hc)
      · exact hD2 k hd (.inr (.inl hb))
      · exact hB2 k hb (.inr he)
    · rintro k ha (hb | hc | hd | he)
      · exact hA2 k ha (.inl hb)
      · exact hA2 k ha (.inr (.inl hc))
      · exact hD2 k hd (.inl ha)
      · exact hA2 k ha (.inr (.inr he))
  · rcases hk with hk | hk | hk | hk | hk
    · exact .inr (.inl hk)
    · exact .inr (.inr (.inl hk))
    · exact .inr (.inr (.inr (.inl hk)))
    · exact .inl hk
    · exact .inr (.inr (.inr (.inr hk)))
/-- Several parts of one kind, beside each other. -/
def manyP (I : Nat → Prop) (A : Nat → Part) : Part where
  own := fun k => ∃ i, I i ∧ (A i).own k
  q := fun w => (∀ i, I i → (A i).q w) ∧ ∀ i j, I i → I j → i ≠ j → ∀ k, (A i).own k → ¬ (A j).own k
  on := fun w1 w2 h hs => ⟨fun i hi => (A i).on w1 w2 (h.1 i hi) fun k hk => hs k ⟨i, hi, hk⟩, h.2⟩
section
variable {F : Nat → Prop} {w0 w : World} {I : Nat → Prop} {A : Nat → Part} {B R : Part} {i : Nat}
/-- Parts that have no blocks. -/
theorem LawF.many0 (H : LawF F w0 w R) (hq : ∀ i, I i → (A i).q w) (ho : ∀ i k, ¬ (A i).own k) : LawF F w0 w ((manyP I A).and R) :=
  ⟨H.gr, ⟨⟨hq, fun i _ _ _ _ k hk => (ho i k hk).elim⟩, H.q, fun k ⟨i, _, hk⟩ => (ho i k hk).elim⟩, fun k hk => hk.elim (fun ⟨i, _, hk⟩ => (ho i k hk).elim) (H.lt k)⟩
/-- One of them is taken out. -/
theorem LawF.pick (H : LawF F w0 w ((manyP I A).and R)) (i : Nat) (hi : I i) : LawF F w0 w ((A i).and ((manyP (fun j => I j ∧ j ≠ i) A).and R)) := by
  refine H.weak (fun h => ?_) fun k hk => ?_
  · refine ⟨h.1.1 i hi, ⟨⟨fun j hj => h.1.1 j hj.1, fun j l hj hl => h.1.2 j l hj.1 hl.1⟩, h.2.1, ?_⟩, ?_⟩
    · rintro k ⟨j, hj, hk⟩ hr
      exact h.2.2 k ⟨j, hj.1, hk⟩ hr
    · rintro k hk (⟨j, hj, hjk⟩ | hr)
      · exact h.1.2 j i hj.1 hi hj.2 k hjk hk
      · exact h.2.2 k ⟨i, hi, hk⟩ hr
  · rcases hk with hk | ⟨j, hj, hk⟩ | hk
    · exact .inl ⟨i, hi, hk⟩
    · exact .inl ⟨j, hj.1, hk⟩
    · exact .inr hk
def turnAt (A : Nat → Part) (i : Nat) (B : Part) : Nat → Part := fun j => if j = i then B else A j
/-- One is put back, turned perhaps. -/
theorem LawF.back (H : LawF F w0 w (B.and ((manyP (fun j => I j ∧ j ≠ i) A).and R))) : LawF F w0 w ((manyP I (turnAt A i B)).and R) := by
  have other : ∀ j, j ≠ i → turnAt A i B j = A j := fun j hj => if_neg hj
  have same : ∀ j, j = i → turnAt A i B j = B := fun j hj => if_pos hj
  refine H.weak (fun h => ?_) fun k hk => ?_
  · refine ⟨⟨fun j hj => ?_, fun j l hj hl hne k hk => ?_⟩, h.2.1.2.1, ?_⟩
    · by_cases e : j = i
      · rw [same j e]
        exact h.1
      · rw [other j e]
        exact h.2.1.1.1 j ⟨hj, e⟩
    · by_cases e : j = i
      · have e2 : l ≠ i := fun e2 => hne (e.trans e2.symm)
        rw [same j e] at hk
        rw [other l e2]
        exact fun hl2 => h.2.2 k hk (.inl ⟨l, ⟨hl, e2⟩, hl2⟩)
      · rw [other j e] at hk
        by_cases e2 : l = i
        · rw [same l e2]
          exact fun hb => h.2.2 k hb (.inl ⟨j, ⟨hj, e⟩, hk⟩)
        · rw [other l e2]
          exact h.2.1.1.2 j l ⟨hj, e⟩ ⟨hl, e2⟩ hne k hk
    · rintro k ⟨j, hj, hk⟩ hr
      by_cases e : j = i
      · rw [same j e] at hk
        exact h.2.2 k hk (.inr hr)
      · rw [other j e] at hk
        exact h.2.1.2.2 k ⟨j, ⟨hj, e⟩, hk⟩ hr
  · rcases hk with ⟨j, hj, hk⟩ | hk
    · by_cases e : j = i
      · rw [same j e] at hk
        exact .inl hk
      · rw [other j e] at hk
        exact .inr (.inl ⟨j, ⟨hj, e⟩, hk⟩)
    · exact .inr (.inr hk)
end
end Go.Proofs.YthofdmepofepgaaDoor
