/- Memory in parts, as a function of the program that has blocks of its own sees it: what it writes was its own or is new. Conditions: none. Lists of parts: one of them turns, the others stay. Conditions: none. Slices of structs of any size that came in, opened: each element's cells, in memory. Conditions: the element's type takes at least one cell. -/
import Derived.Test.YtckjjfkfapfdaaaGreatG00Joined
import Derived.ProofKit
import Derived.OpenShut
import Derived.Deep.SlicePairs
import Derived.Deep.Strs
namespace Go.Proofs.YtckjjfkfapfdaaaGreat
open Go.RowKit

/-- Where a function stands that was called at w0 and owns the blocks F there. -/
structure LawF (F : Nat → Prop) (w0 w : World) (A : Part) : Prop where
  gr : Gr F w0 w
  q : A.q w
  lt : ∀ k, A.own k → k < w.heap.size ∧ (F k ∨ w0.heap.size ≤ k)
section
variable {F : Nat → Prop} {w0 w w' w1 : World} {A A' B C D R R' : Part}
theorem LawF.start {w : World} {A : Part} (h : A.q w) (hl : ∀ k, A.own k → k < w.heap.size) : LawF A.own w w A := ⟨Gr.refl _ _, h, fun k hk => ⟨hl k hk, .inl hk⟩⟩
theorem LawF.bare (w : World) : LawF (fun _ => False) w w Part.emp := ⟨Gr.refl _ _, trivial, fun _ h => h.elim⟩
/-- What a contract tells. -/
theorem LawF.grew (H : LawF F w0 w A) : Grew w0 F A.own := fun k hk => (H.lt k hk).2
theorem LawF.size (H : LawF F w0 w A) : w0.heap.size ≤ w.heap.size := H.gr.size
theorem LawF.step (H : LawF F w0 w A) (hg : w.grownBy w' none) : LawF F w0 w' A :=
  ⟨H.gr.then (Gr.of hg) (fun _ _ e => by cases e), A.on w w' H.q fun k hk => hg.block k (H.lt k hk).1 (by simp), fun k hk => ⟨Nat.lt_of_lt_of_le (H.lt k hk).1 hg.size, (H.lt k hk).2⟩⟩
theorem LawF.drew (H : LawF F w0 w A) : LawF F w0 w.drew A := H.step ⟨rfl, rfl, rfl, Nat.le_refl _, fun _ _ _ => rfl⟩
theorem LawF.drewN (H : LawF F w0 w A) (j : Nat) : LawF F w0 (w.drewN j) A := H.step ⟨rfl, rfl, rfl, Nat.le_refl _, fun _ _ _ => rfl⟩
theorem LawF.alloc (H : LawF F w0 w A) (o : Obj) : LawF F w0 (w.alloc o) A := H.step (World.grownBy_alloc w o none)
/-- The first part turns. -/
theorem LawF.turn (H : LawF F w0 w (A.and R)) (hq : A'.q w') (hl : ∀ k, A'.own k → k < w'.heap.size) (hg : Gr A.own w w') (hgr : Grew w A.own A'.own) : LawF F w0 w' (A'.and R) := by
  refine ⟨H.gr.then hg (fun i hi ha => (H.lt i (.inl ha)).2.elim id fun h => absurd hi (Nat.not_lt_of_le h)), ⟨hq, R.on w w' H.q.2.1 fun k hk => hg.block k (H.lt k (.inr hk)).1 (fun ha => H.q.2.2 k ha hk), fun k ha hr => ?_⟩, ?_⟩
  · rcases hgr k ha with h | h
    · exact H.q.2.2 k h hr
    · exact Nat.not_lt_of_le h (H.lt k (.inr hr)).1
  · rintro k (hk | hk)
    · refine ⟨hl k hk, ?_⟩
      rcases hgr k hk with h | h
      · exact (H.lt k (.inl h)).2
      · exact .inr (Nat.le_trans H.gr.size h)
    · exact ⟨Nat.lt_of_lt_of_le (H.lt k (.inr hk)).1 hg.size, (H.lt k (.inr hk)).2⟩
/-- A new part. -/
theorem LawF.new (H : LawF F w0 w R) (hg : w.grownBy w' none) (hq : A.q w') (hn : ∀ k, A.own k → w.heap.size ≤ k ∧ k < w'.heap.size) : LawF F w0 w' (A.and R) := by
  have S := H.step hg
  refine ⟨S.gr, ⟨hq, S.q, fun k ha hr => Nat.not_lt_of_le (hn k ha).1 (H.lt k hr).1⟩, ?_⟩
  rintro k (hk | hk)
  · exact ⟨(hn k hk).2, .inr (Nat.le_trans H.gr.size (hn k hk).1)⟩
  · exact S.lt k hk
/-- Less is known, or the same in other words. -/
theorem LawF.weak (H : LawF F w0 w A) (hq : A.q w → B.q w) (ho : ∀ k, B.own k → A.own k) : LawF F w0 w B := ⟨H.gr, hq H.q, fun k hk => H.lt k (ho k hk)⟩
theorem LawF.comm (H : LawF F w0 w (A.and B)) : LawF F w0 w (B.and A) := H.weak (fun h => ⟨h.2.1, h.1, fun k hb ha => h.2.2 k ha hb⟩) fun _ hk => hk.symm
theorem LawF.rot (H : LawF F w0 w (A.and (B.and C))) : LawF F w0 w (B.and (A.and C)) := H.weak (fun h => and_rot_q h) fun k hk => and_rot_own k hk
theorem LawF.left (H : LawF F w0 w (A.and B)) : LawF F w0 w A := H.weak (fun h => h.1) fun _ hk => .inl hk
theorem LawF.right (H : LawF F w0 w (A.and B)) : LawF F w0 w B := H.weak (fun h => h.2.1) fun _ hk => .inr hk
theorem LawF.weak1 (H : LawF F w0 w (A.and R)) (hq : A.q w → A'.q w) (ho : ∀ k, A'.own k → A.own k) : LawF F w0 w (A'.and R) := H.weak (fun h => ⟨hq h.1, h.2.1, fun k ha hr => h.2.2 k (ho k ha) hr⟩) fun k hk => hk.imp (ho k) id
theorem LawF.in1 (H : LawF F w0 w (A.and R)) (hq : R.q w → R'.q w) (ho : ∀ k, R'.own k → R.own k) : LawF F w0 w (A.and R') := (H.comm.weak1 hq ho).comm
theorem LawF.rin (H : LawF F w0 w (A.and (B.and (C.and D)))) : LawF F w0 w (A.and (C.and (B.and D))) := H.in1 (fun h => and_rot_q h) fun k hk => and_rot_own k hk
end
section
variable {F : Nat → Prop} {w0 w w' w1 : World} {A A' B C R R' : Part} {e t : TypeId} {size n m n0 k : Nat} {v v' x y : Value} {xs ys : List Value} {tmp : Obj}
theorem LawF.box (H : LawF F w0 w R) (o : Obj) : LawF F w0 (w.alloc o) ((boxP w.heap.size o).and R) :=
  H.new (World.grownBy_alloc w o none) (World.alloc_heap_new w o) (by rintro k rfl; rw [World.size_alloc]; exact ⟨Nat.le_refl _, Nat.lt_succ_self _⟩)
theorem LawF.nil (H : LawF F w0 w R) : LawF F w0 w ((rowP n0 e size (.slice none 0 0) 0 []).and R) :=
  ⟨H.gr, ⟨World.ownsRow_nil _ _ _ _, H.q, fun k ha => by cases ha⟩, fun k hk => hk.elim (fun h => by cases h) (H.lt k)⟩
theorem LawF.setAt {cs : Array Value} (H : LawF F w0 w ((boxP k (.cells cs t)).and R)) (i : Nat) (y : Value) : LawF F w0 (w.setCell ⟨k, i, none⟩ y) ((boxP k (.cells (cs.setIfInBounds i y) t)).and R) := by
  refine H.turn (A' := boxP k (.cells (cs.setIfInBounds i y) t)) (heap_setCell_same w k i cs t y H.q.1) (fun j hj => ?_) ?_ fun j hj => .inl hj
  · rw [World.size_setCell]
    exact (H.lt j (.inl hj)).1
  · exact ⟨rfl, rfl, rfl, by rw [World.size_setCell]; exact Nat.le_refl _, fun j _ hn => heap_setCell_other _ _ _ _ hn⟩
theorem LawF.app (H : LawF F w0 w ((rowP n0 e size v n xs).and R)) (hown : w1.ownsRow n0 e size v' m ys) (hgrow : (w.alloc tmp).grownBy w1 v.ownBlock) (hat : v'.ownBlock = v.ownBlock ∨ v'.ownBlock = some (w.alloc tmp).heap.size) : LawF F w0 w1 ((rowP n0 e size v' m ys).and R) := by
  have hsa : (w.alloc tmp).heap.size = w.heap.size + 1 := World.size_alloc _ _
  have hs1 := hgrow.size
  refine H.turn hown (fun k hk => (own_at hown hk).2.1) ⟨hgrow.1, hgrow.2, hgrow.3, by omega, fun k hk hr => (hgrow.block k (by omega) (fun e => hr e.symm)).trans (Below.heap_alloc _ _ _ hk)⟩ fun k hk => ?_
  rcases hat with h | h
  · exact .inl (h.symm.trans hk)
  · have hk' : v'.ownBlock = some k := hk
    rw [h] at hk'
    cases hk'
    exact .inr (by omega)
theorem LawF.app0 (H : LawF F w0 w ((rowP n0 e size v n xs).and R)) (hown : w1.ownsRow n0 e size v' m ys) (hgrow : w.grownBy w1 v.ownBlock) (hat : v'.ownBlock = v.ownBlock ∨ v'.ownBlock = some w.heap.size) : LawF F w0 w1 ((rowP n0 e size v' m ys).and R) := by
  refine H.turn hown (fun k hk => (own_at hown hk).2.1) ⟨hgrow.1, hgrow.2, hgrow.3, hgrow.size, fun k hk hr => hgrow.block k hk (fun e => hr e.symm)⟩ fun k hk => ?_
  rcases hat with h | h
  · exact .inl (h.symm.trans hk)
  · have hk' : v'.ownBlock = some k := hk
    rw [h] at hk'
    cases hk'
    exact .inr (Nat.le_refl _)
end
/-- The fourth part comes first. -/
theorem LawF.rot4 {F : Nat → Prop} {w0 w : World} {A B C D E : Part} (H : LawF F w0 w (A.and (B.and (C.and (D.and E))))) : LawF F w0 w (D.and (A.and (B.and (C.and E)))) := by
  refine H.weak (fun h => ?_) fun k hk => ?_
  · obtain ⟨hA, ⟨hB, ⟨hC, ⟨hD, hE, hDE⟩, hC2⟩, hB2⟩, hA2⟩ := h
    refine ⟨hD, ⟨hA, ⟨hB, ⟨hC, hE, fun k hc he => hC2 k hc (.inr he)⟩, ?_⟩, ?_⟩, ?_⟩
    · rintro k hb (hc | he)
      · exact hB2 k hb (.inl hc)
      · exact hB2 k hb (.inr (.inr he))
    · rintro k ha (hb | hc | he)
      · exact hA2 k ha (.inl hb)
      · exact hA2 k ha (.inr (.inl hc))
      · exact hA2 k ha (.inr (.inr (.inr he)))
    · rintro k hd (ha | hb | hc | he)
      · exact hA2 k ha (.inr (.inr (.inl hd)))
      · exact hB2 k hb (.inr (.inl hd))
      · exact hC2 k hc (.inl hd)
      · exact hDE k hd he
  · rcases hk with hk | hk | hk | hk | hk
    · exact .inr (.inr (.inr (.inl hk)))
    · exact .inl hk
    · exact .inr (.inl hk)
    · exact .inr (.inr (.inl hk))
    · exact .inr (.inr (.inr (.inr hk)))
/-- The first part becomes the fourth. -/
theorem LawF.unrot4 {F : Nat → Prop} {w0 w : World} {A B C D E : Part} (H : LawF F w0 w (D.and (A.and (B.and (C.and E))))) : LawF F w0 w (A.and (B.and (C.and (D.and E)))) := by
  refine H.weak (fun h => ?_) fun k hk => ?_
  · obtain ⟨hD, ⟨hA, ⟨hB, ⟨hC, hE, hCE⟩, hB2⟩, hA2⟩, hD2⟩ := h
    refine ⟨hA, ⟨hB, ⟨hC, ⟨hD, hE, fun k hd he => hD2 k hd (.inr (.inr (.inr he)))⟩, ?_⟩, ?_⟩, ?_⟩
    · rintro k hc (hd | he)
      · exact hD2 k hd (.inr (.inr (.inl hc)))
      · exact hCE k hc he
    · rintro k hb (hc | hd | he)
      · exact hB2 k hb (.inl hc)
      · exact hD2 k hd (.inr (.inl hb))
      · exact hB2 k hb (.inr he)
    · rintro k ha (hb | hc | hd | he)
      · exact hA2 k ha (.inl hb)
      · exact hA2 k ha (.inr (.inl hc))
      · exact hD2 k hd (.inl ha)
      · exact hA2 k ha (.inr (.inr he))
  · rcases hk with hk | hk | hk | hk | hk
    · exact .inr (.inl hk)
    · exact .inr (.inr (.inl hk))
    · exact .inr (.inr (.inr (.inl hk)))
    · exact .inl hk
    · exact .inr (.inr (.inr (.inr hk)))
/-- Several parts of one kind, beside each other. -/
def manyP (I : Nat → Prop) (A : Nat → Part) : Part where
  own := fun k => ∃ i, I i ∧ (A i).own k
  q := fun w => (∀ i, I i → (A i).q w) ∧ ∀ i j, I i → I j → i ≠ j → ∀ k, (A i).own k → ¬ (A j).own k
  on := fun w1 w2 h hs => ⟨fun i hi => (A i).on w1 w2 (h.1 i hi) fun k hk => hs k ⟨i, hi, hk⟩, h.2⟩
section
variable {F : Nat → Prop} {w0 w : World} {I : Nat → Prop} {A : Nat → Part} {B R : Part} {i : Nat}
/-- Parts that have no blocks. -/
theorem LawF.many0 (H : LawF F w0 w R) (hq : ∀ i, I i → (A i).q w) (ho : ∀ i k, ¬ (A i).own k) : LawF F w0 w ((manyP I A).and R) :=
  ⟨H.gr, ⟨⟨hq, fun i _ _ _ _ k hk => (ho i k hk).elim⟩, H.q, fun k ⟨i, _, hk⟩ => (ho i k hk).elim⟩, fun k hk => hk.elim (fun ⟨i, _, hk⟩ => (ho i k hk).elim) (H.lt k)⟩
/-- One of them is taken out. -/
theorem LawF.pick (H : LawF F w0 w ((manyP I A).and R)) (i : Nat) (hi : I i) : LawF F w0 w ((A i).and ((manyP (fun j => I j ∧ j ≠ i) A).and R)) := by
  refine H.weak (fun h => ?_) fun k hk => ?_
  · refine ⟨h.1.1 i hi, ⟨⟨fun j hj => h.1.1 j hj.1, fun j l hj hl => h.1.2 j l hj.1 hl.1⟩, h.2.1, ?_⟩, ?_⟩
    · rintro k ⟨j, hj, hk⟩ hr
      exact h.2.2 k ⟨j, hj.1, hk⟩ hr
    · rintro k hk (⟨j, hj, hjk⟩ | hr)
      · exact h.1.2 j i hj.1 hi hj.2 k hjk hk
      · exact h.2.2 k ⟨i, hi, hk⟩ hr
  · rcases hk with hk | ⟨j, hj, hk⟩ | hk
    · exact .inl ⟨i, hi, hk⟩
    · exact .inl ⟨j, hj.1, hk⟩
    · exact .inr hk
def turnAt (A : Nat → Part) (i : Nat) (B : Part) : Nat → Part := fun j => if j = i then B else A j
/-- One is put back, turned perhaps. -/
theorem LawF.back (H : LawF F w0 w (B.and ((manyP (fun j => I j ∧ j ≠ i) A).and R))) : LawF F w0 w ((manyP I (turnAt A i B)).and R) := by
  have other : ∀ j, j ≠ i → turnAt A i B j = A j := fun j hj => if_neg hj
  have same : ∀ j, j = i → turnAt A i B j = B := fun j hj => if_pos hj
  refine H.weak (fun h => ?_) fun k hk => ?_
  · refine ⟨⟨fun j hj => ?_, fun j l hj hl hne k hk => ?_⟩, h.2.1.2.1, ?_⟩
    · by_cases e : j = i
      · rw [same j e]
        exact h.1
      · rw [other j e]
        exact h.2.1.1.1 j ⟨hj, e⟩
    · by_cases e : j = i
      · have e2 : l ≠ i := fun e2 => hne (e.trans e2.symm)
        rw [same j e] at hk
        rw [other l e2]
        exact fun hl2 => h.2.2 k hk (.inl ⟨l, ⟨hl, e2⟩, hl2⟩)
      · rw [other j e] at hk
        by_cases e2 : l = i
        · rw [same l e2]
          exact fun hb => h.2.2 k hb (.inl ⟨j, ⟨hj, e⟩, hk⟩)
        · rw [other l e2]
          exact h.2.1.1.2 j l ⟨hj, e⟩ ⟨hl, e2⟩ hne k hk
    · rintro k ⟨j, hj, hk⟩ hr
      by_cases e : j = i
      · rw [same j e] at hk
        exact h.2.2 k hk (.inr hr)
      · rw [other j e] at hk
        exact h.2.1.2.2 k ⟨j, ⟨hj, e⟩, hk⟩ hr
  · rcases hk with ⟨j, hj, hk⟩ | hk
    · by_cases e : j = i
      · rw [same j e] at hk
        exact .inl hk
      · rw [other j e] at hk
        exact .inr (.inl ⟨j, ⟨hj, e⟩, hk⟩)
    · exact .inr (.inr hk)
end
end Go.Proofs.YtckjjfkfapfdaaaGreat

namespace Go.Proofs.YtckjjfkfapfdaaaGreat
open Go.RowKit

/-- Parts beside each other, by their places. -/
def allP (l : List Part) : Part where
  own := fun k => ∃ (i : Nat) (A : Part), l[i]? = some A ∧ A.own k
  q := fun w => (∀ (i : Nat) (A : Part), l[i]? = some A → A.q w) ∧ ∀ (i j : Nat) (A B : Part), i ≠ j → l[i]? = some A → l[j]? = some B → ∀ k, A.own k → ¬ B.own k
  on := fun w1 w2 h hs => ⟨fun i A hi => A.on w1 w2 (h.1 i A hi) fun k hk => hs k ⟨i, A, hi, hk⟩, h.2⟩
theorem gr_sub {F G : Nat → Prop} {a b : World} (h : Gr F a b) (hF : ∀ k, F k → G k) : Gr G a b := ⟨h.os, h.tape, h.output, h.size, fun k hk hr => h.block k hk (fun hf => hr (hF k hf))⟩
section
variable {F : Nat → Prop} {w0 w w' : World} {l : List Part} {A A' B R : Part} {i : Nat}
theorem LawF.at (H : LawF F w0 w ((allP l).and R)) (i : Nat) (hi : l[i]? = some A) : A.q w := H.q.1.1 i A hi
theorem LawF.atLt (H : LawF F w0 w ((allP l).and R)) (i : Nat) (hi : l[i]? = some A) : ∀ k, A.own k → k < w.heap.size := fun k hk => (H.lt k (.inl ⟨i, A, hi, hk⟩)).1
theorem LawF.turnIn (H : LawF F w0 w ((allP l).and R)) (i : Nat) (hi : l[i]? = some A) (hq : A'.q w') (hl : ∀ k, A'.own k → k < w'.heap.size) (hg : Gr A.own w w') (hgr : Grew w A.own A'.own) : LawF F w0 w' ((allP (l.set i A')).and R) := by
  have hil : i < l.length := (List.getElem?_eq_some_iff.1 hi).1
  have at_ : ∀ j B, (l.set i A')[j]? = some B → (j = i ∧ B = A') ∨ (j ≠ i ∧ l[j]? = some B) := fun j B hj => by
    by_cases e : j = i
    · subst e
      rw [List.getElem?_set_self hil] at hj
      cases hj
      exact .inl ⟨rfl, rfl⟩
    · rw [List.getElem?_set_ne (fun e' => e e'.symm)] at hj
      exact .inr ⟨e, hj⟩
  have old : ∀ (j : Nat) (B : Part), l[j]? = some B → ∀ k, B.own k → k < w.heap.size := fun j B hj k hk => (H.lt k (.inl ⟨j, B, hj, hk⟩)).1
  have two := H.q.1.2
  refine H.turn (A' := allP (l.set i A')) ⟨fun j B hj => ?_, fun j m B C hjm hj hm k hB hC => ?_⟩ ?_ (gr_sub hg fun k hk => ⟨i, A, hi, hk⟩) ?_
  · rcases at_ j B hj with ⟨_, rfl⟩ | ⟨hne, hj⟩
    · exact hq
    · exact B.on w w' (H.q.1.1 j B hj) fun k hk => hg.block k (old j B hj k hk) (fun ha => two i j A B (fun e => hne e.symm) hi hj k ha hk)
  · rcases at_ j B hj with ⟨rfl, rfl⟩ | ⟨hne, hj⟩
    · rcases at_ m C hm with ⟨rfl, _⟩ | ⟨hne, hm⟩
      · exact hjm rfl
      · rcases hgr k hB with h | h
        · exact two j m A C hjm hi hm k h hC
        · exact Nat.not_lt_of_le h (old m C hm k hC)
    · rcases at_ m C hm with ⟨em, eC⟩ | ⟨_, hm⟩
      · rw [eC] at hC
        rcases hgr k hC with h | h
        · exact two j i B A hne hj hi k hB h
        · exact Nat.not_lt_of_le h (old j B hj k hB)
      · exact two j m B C hjm hj hm k hB hC
  · rintro k ⟨j, B, hj, hk⟩
    rcases at_ j B hj with ⟨_, rfl⟩ | ⟨_, hj⟩
    · exact hl k hk
    · exact Nat.lt_of_lt_of_le (old j B hj k hk) hg.size
  · rintro k ⟨j, B, hj, hk⟩
    rcases at_ j B hj with ⟨_, rfl⟩ | ⟨_, hj⟩
    · exact (hgr k hk).imp (fun h => ⟨i, A, hi, h⟩) id
    · exact .inl ⟨j, B, hj, hk⟩
/-- Less is known of one of them. -/
theorem LawF.lessIn (H : LawF F w0 w ((allP l).and R)) (i : Nat) (hi : l[i]? = some A) (hq : A.q w → A'.q w) (ho : ∀ k, A'.own k → A.own k) : LawF F w0 w ((allP (l.set i A')).and R) :=
  H.turnIn i hi (hq (H.at i hi)) (fun k hk => H.atLt i hi k (ho k hk)) (Gr.refl _ _) fun k hk => .inl (ho k hk)
theorem LawF.consP (H : LawF F w0 w (A.and ((allP l).and R))) : LawF F w0 w ((allP (A :: l)).and R) := by
  have at_ : ∀ j B, (A :: l)[j]? = some B → (j = 0 ∧ B = A) ∨ ∃ m, j = m + 1 ∧ l[m]? = some B := fun j B hj => by
    cases j with
    | zero =>
      cases hj
      exact .inl ⟨rfl, rfl⟩
    | succ m => exact .inr ⟨m, rfl, by simpa using hj⟩
  obtain ⟨hA, ⟨hL, hR, hLR⟩, hx⟩ := H.q
  refine H.weak (B := (allP (A :: l)).and R) (fun _ => ⟨⟨fun j B hj => ?_, fun j m B C hjm hj hm k hB hC => ?_⟩, hR, ?_⟩) ?_
  · rcases at_ j B hj with ⟨_, rfl⟩ | ⟨m, _, hm⟩
    · exact hA
    · exact hL.1 m B hm
  · rcases at_ j B hj with ⟨rfl, rfl⟩ | ⟨x, rfl, hx1⟩
    · rcases at_ m C hm with ⟨rfl, _⟩ | ⟨y, rfl, hy⟩
      · exact hjm rfl
      · exact hx k hB (.inl ⟨y, C, hy, hC⟩)
    · rcases at_ m C hm with ⟨rfl, rfl⟩ | ⟨y, rfl, hy⟩
      · exact hx k hC (.inl ⟨x, B, hx1, hB⟩)
      · exact hL.2 x y B C (fun e => hjm (by rw [e])) hx1 hy k hB hC
  · rintro k ⟨j, B, hj, hk⟩ hr
    rcases at_ j B hj with ⟨_, rfl⟩ | ⟨m, _, hm⟩
    · exact hx k hk (.inr hr)
    · exact hLR k ⟨m, B, hm, hk⟩ hr
  · rintro k (⟨j, B, hj, hk⟩ | hk)
    · rcases at_ j B hj with ⟨_, rfl⟩ | ⟨m, _, hm⟩
      · exact .inl hk
      · exact .inr (.inl ⟨m, B, hm, hk⟩)
    · exact .inr (.inr hk)
theorem LawF.nilP (H : LawF F w0 w R) : LawF F w0 w ((allP []).and R) :=
  ⟨H.gr, ⟨⟨fun i A h => (by cases h), fun i j A B _ h => (by cases h)⟩, H.q, fun k hk => (by obtain ⟨i, A, h, _⟩ := hk; cases h)⟩, fun k hk => hk.elim (fun ⟨i, A, h, _⟩ => (by cases h)) (H.lt k)⟩
/-- A whole block is written. -/
theorem LawF.setRow {k : Nat} {old : Array Value} {t : TypeId} (H : LawF F w0 w ((boxP k (.cells old t)).and R)) (cs : Array Value) : LawF F w0 (w.setRow k cs) ((boxP k (.cells cs t)).and R) := by
  refine H.turn (A' := boxP k (.cells cs t)) (setRow_heap w k old cs t (0, 0) H.q.1) (fun j hj => ?_) ?_ fun j hj => .inl hj
  · rw [size_setRow]
    exact (H.lt j (.inl hj)).1
  · exact ⟨rfl, rfl, rfl, by rw [size_setRow]; exact Nat.le_refl _, fun j _ hn => setRow_other w k j cs hn⟩
end
theorem law_f {w0 w : World} {A : Part} (H : Law w0 w A) : LawF (fun _ => False) w0 w A := ⟨⟨H.below.os, H.below.tape, H.below.output, H.below.size, fun k hk _ => H.below.block k hk⟩, H.q, fun k hk => ⟨(H.lt k hk).2, .inr (H.lt k hk).1⟩⟩
theorem f_law {w0 w : World} {A : Part} (H : LawF (fun _ => False) w0 w A) : Law w0 w A := ⟨below_gr (H.gr.to fun _ h => h.elim), H.q, fun k hk => ⟨(H.lt k hk).2.resolve_left id, (H.lt k hk).1⟩⟩
end Go.Proofs.YtckjjfkfapfdaaaGreat

namespace Go.Proofs.YtckjjfkfapfdaaaGreat
open Go.RowKit Go.ChangeShapes Go.WideShapes Go.Deep

/-- A whole number of the program. -/
def I64 (a : Int) : Prop := -9223372036854775808 ≤ a ∧ a < 9223372036854775808
/-- Elements that lie in memory, each with its cells. -/
def RowsAt (w : World) (a : Option Addr) (len cap size : Nat) (xs : List (List Value)) : Prop :=
  (len = 0 ∧ xs = []) ∨ ∃ b off, a = some ⟨b, off, none⟩ ∧ len ≤ cap ∧ xs.length = len ∧ b < w.heap.size ∧
    ∀ (i j : Nat) (x : List Value) (v : Value), xs[i]? = some x → x[j]? = some v → w.cell? ⟨b, off + i * size + j, none⟩ = some v
theorem RowsAt.on {w w' : World} {a : Option Addr} {len cap size : Nat} {xs : List (List Value)} (h : RowsAt w a len cap size xs) (hb : Below w.heap.size w w') : RowsAt w' a len cap size xs := by
  rcases h with h | ⟨b, off, h1, h2, h3, h4, h5⟩
  · exact .inl h
  · exact .inr ⟨b, off, h1, h2, h3, Nat.lt_of_lt_of_le h4 hb.size, fun i j x v hx hv => (hb.cell (p := ⟨b, off + i * size + j, none⟩) h4).trans (h5 i j x v hx hv)⟩
theorem RowsAt.len_ {w : World} {a : Option Addr} {len cap size : Nat} {xs : List (List Value)} (h : RowsAt w a len cap size xs) : xs.length = len := by
  rcases h with ⟨h1, h2⟩ | ⟨b, off, h1, h2, h3, h4, h5⟩
  · rw [h1, h2]; rfl
  · exact h3
/-- Where there is one at i, the slice is written out, and its cells are. -/
theorem RowsAt.at {w : World} {a : Option Addr} {len cap size : Nat} {xs : List (List Value)} (h : RowsAt w a len cap size xs) (i : Nat) (x : List Value) (hi : xs[i]? = some x) :
    ∃ b off, a = some ⟨b, off, none⟩ ∧ b < w.heap.size ∧ len ≤ cap ∧ ∀ (j : Nat) (v : Value), x[j]? = some v → w.cell? ⟨b, off + i * size + j, none⟩ = some v := by
  rcases h with ⟨h1, h2⟩ | ⟨b, off, h1, h2, h3, h4, h5⟩
  · rw [h2] at hi; cases hi
  · exact ⟨b, off, h1, h4, h2, fun j v hv => h5 i j x v hi hv⟩
theorem open_rows {H : Type} {P : Program} {enc : TypeId × Value → H} {w : World} {base : Nat} {spare : Nat → Bool} {held : Bool} {fuel : Nat} {t e : TypeId} {size : Nat} {a : Option Addr} {len cap : Nat} {x : DataW H × List MemPlace}
    (hu : P.underlying t = some (.slice e)) (hsz : P.cellsOf e = size) (hpos : 0 < size) (h : DataW.trod enc P w base spare held fuel t [.slice a len cap] = some x) :
    ∃ xs : List (List Value), RowsAt w a len cap size xs ∧ ∀ y ∈ xs, y.length = size ∧ ∃ n z, DataW.trod enc P w base spare held n e y = some z := by
  rcases open_slice hu h with ⟨hcs, _⟩ | ⟨ad, l, c, m, n, D, Pl, hcs, _, hl, hm, hmm, _, hx⟩
  · cases hcs
    exact ⟨[], .inl ⟨rfl, rfl⟩, fun y hy => by cases hy⟩
  · cases hcs
    by_cases h0 : len = 0
    · exact ⟨[], .inl ⟨h0, rfl⟩, fun y hy => by cases hy⟩
    · have hlm : len ≤ m := by rw [hmm]; split <;> omega
      have each : ∀ i, i < m → ∃ q : List Value, q.length = size ∧ (∀ j, j < size → w.cell? (ad.add (i * size + j)) = q[j]?) ∧ ∃ n z, DataW.trod enc P w base spare held n e q = some z := by
        intro i hi
        obtain ⟨cs', h1, h2⟩ := hx i hi
        rw [hsz] at h1
        obtain ⟨_, hlen, hcell⟩ := World.cells?_some h1
        exact ⟨cs', hlen, fun j hj => by rw [← add_add]; exact hcell j hj, n, _, h2⟩
      obtain ⟨q, hq⟩ := choose_lt each
      obtain ⟨b, off, spot⟩ := ad
      have q0 := hq 0 (by omega)
      have hc : w.cell? ((⟨b, off, spot⟩ : Addr).add (0 * size + 0)) = some ((q 0)[0]'(by omega)) := by
        rw [q0.2.1 0 hpos]
        exact List.getElem?_eq_getElem (by omega)
      have hspot : spot = none := by simpa [Addr.add] using World.cell?_spot hc
      subst hspot
      have hadd : ∀ i, (⟨b, off, none⟩ : Addr).add i = ⟨b, off + i, none⟩ := fun i => by unfold Addr.add; split <;> simp_all
      refine ⟨(List.range len).map q, .inr ⟨b, off, rfl, hl, by simp, by rw [hadd] at hc; exact block_lt_of_cell hc, ?_⟩, ?_⟩
      · intro i j x v hi hv
        rw [List.getElem?_map] at hi
        by_cases hil : i < len
        · rw [List.getElem?_range hil] at hi
          simp only [Option.map_some, Option.some.injEq] at hi
          subst hi
          have hj : j < size := by
            have := (List.getElem?_eq_some_iff.1 hv).1
            rwa [(hq i (by omega)).1] at this
          have := (hq i (by omega)).2.1 j hj
          rw [hadd, hv] at this
          rw [Nat.add_assoc]
          exact this
        · rw [List.getElem?_eq_none (by simp; omega)] at hi
          cases hi
      · intro y hy
        obtain ⟨i, hi, rfl⟩ := List.mem_map.1 hy
        have := hq i (by have := List.mem_range.1 hi; omega)
        exact ⟨this.1, this.2.2⟩
end Go.Proofs.YtckjjfkfapfdaaaGreat
