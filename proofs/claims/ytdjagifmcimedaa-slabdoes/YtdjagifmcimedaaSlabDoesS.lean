/- Where SlabDoes stands: the slab, the document's own one, a slice and blocks of the statement's own, all apart. Conditions: the contracts of package slab. -/
import Derived.Test.YtdjagifmcimedaaSlabRefV
namespace Go.Proofs.Ytdjagifmcimedaa
open Go.RowKit
variable {Sl : World → Nat → (Nat → Prop) → Sb → Prop}

def DB (h gm : Nat) (vi vg vh : Value) (xs : List (Nat × Obj)) : Nat → Prop := fun k => ROwn h gm vi vg k ∨ vh.ownBlock = some k ∨ ∃ p ∈ xs, p.1 = k
def DQ (n0 h gm : Nat) (sr : Sb) (vi vg vh : Value) (hl : List Ck) (xs : List (Nat × Obj)) : World → Prop := fun V => RSl n0 V h sr vi vg gm ∧ V.ownsRow n0 35 2 vh hl.length (cksV hl) ∧ ∀ p ∈ xs, V.heap[p.1]? = some p.2
theorem DQ.on {n0 h gm : Nat} {sr : Sb} {vi vg vh : Value} {hl : List Ck} {xs : List (Nat × Obj)} : ∀ w1 w2 : World, DQ n0 h gm sr vi vg vh hl xs w1 → (∀ k, DB h gm vi vg vh xs k → w2.heap[k]? = w1.heap[k]?) → DQ n0 h gm sr vi vg vh hl xs w2 := fun _ _ h1 h2 =>
  ⟨h1.1.same fun k hk => h2 k (.inl hk), own_same h1.2.1 fun k hk => h2 k (.inr (.inl hk)), fun p hp => (h2 p.1 (.inr (.inr ⟨p, hp, rfl⟩))).trans (h1.2.2 p hp)⟩
structure DoesS (Sl : World → Nat → (Nat → Prop) → Sb → Prop) (w0 w : World) (b : Nat) (own : Nat → Prop) (st : Sb) (h gm : Nat) (sr : Sb) (vi vg vh : Value) (hl : List Ck) (xs : List (Nat × Obj)) : Prop where
  law : LawS Sl w0 w b own st (DB h gm vi vg vh xs) (DQ w0.heap.size h gm sr vi vg vh hl xs)
  d1 : ∀ k, vh.ownBlock = some k → ¬ ROwn h gm vi vg k
  d2 : ∀ p ∈ xs, ¬ ROwn h gm vi vg p.1 ∧ vh.ownBlock ≠ some p.1
  x0 : ∀ p ∈ xs, w0.heap.size ≤ p.1
section
variable {w0 w w' w1 : World} {b h gm : Nat} {own own' : Nat → Prop} {st st' sr sr' : Sb} {vi vg vi' vg' vh vh' : Value} {hl : List Ck} {xs : List (Nat × Obj)}
theorem DoesS.ref (H : DoesS Sl w0 w b own st h gm sr vi vg vh hl xs) : RSl w0.heap.size w h sr vi vg gm := H.law.q.1
theorem DoesS.row (H : DoesS Sl w0 w b own st h gm sr vi vg vh hl xs) : w.ownsRow w0.heap.size 35 2 vh hl.length (cksV hl) := H.law.q.2.1
theorem DoesS.to (H : DoesS Sl w0 w b own st h gm sr vi vg vh hl xs) (k : LawS Sl w0 w' b own' st' (DB h gm vi vg vh xs) (DQ w0.heap.size h gm sr vi vg vh hl xs)) : DoesS Sl w0 w' b own' st' h gm sr vi vg vh hl xs := ⟨k, H.d1, H.d2, H.x0⟩
theorem DoesS.step (L : SlabLib Sl) (H : DoesS Sl w0 w b own st h gm sr vi vg vh hl xs) (hg : w.grownBy w' none) : DoesS Sl w0 w' b own st h gm sr vi vg vh hl xs := H.to (H.law.step L hg)
/-- The document's slab turned. -/
theorem DoesS.turn (L : SlabLib Sl) (H : DoesS Sl w0 w b own st h gm sr vi vg vh hl xs) (hR : RSl w0.heap.size w' h sr' vi' vg' gm) (hG : Gr (ROwn h gm vi vg) w w') (hO : ∀ k, ROwn h gm vi' vg' k → ROwn h gm vi vg k ∨ w.heap.size ≤ k) : DoesS Sl w0 w' b own st h gm sr' vi' vg' vh hl xs := by
  have hq := H.law.q
  have old : ∀ k, k < w.heap.size → ¬ ROwn h gm vi vg k → w'.heap[k]? = w.heap[k]? := fun k hk hn => hG.block k hk hn
  refine ⟨H.law.wrote L hG (fun k hk => ⟨hq.1.from0 k hk, (H.law.apart k (.inl hk)).2⟩) ?_ ⟨hR, own_same hq.2.1 fun k hk => old k (H.law.apart k (.inr (.inl hk))).1 (H.d1 k hk), fun p hp => (old p.1 (H.law.apart p.1 (.inr (.inr ⟨p, hp, rfl⟩))).1 (H.d2 p hp).1).trans (hq.2.2 p hp)⟩ DQ.on, fun k hk hr => ?_, fun p hp => ⟨fun hr => ?_, (H.d2 p hp).2⟩, H.x0⟩
  · rintro k (hk | hk)
    · refine ⟨hR.lt k hk, fun ho => ?_⟩
      rcases hO k hk with e | e
      · exact (H.law.apart k (.inl e)).2 ho
      · exact Nat.not_lt_of_le e (L.lt H.law.sl k ho)
    · exact ⟨Nat.lt_of_lt_of_le (H.law.apart k (.inr hk)).1 hG.size, (H.law.apart k (.inr hk)).2⟩
  · rcases hO k hr with e | e
    · exact H.d1 k hk e
    · exact Nat.not_lt_of_le e (H.law.apart k (.inr (.inl hk))).1
  · rcases hO p.1 hr with e | e
    · exact (H.d2 p hp).1 e
    · exact Nat.not_lt_of_le e (H.law.apart p.1 (.inr (.inr ⟨p, hp, rfl⟩))).1
/-- A new block. -/
theorem DoesS.box (L : SlabLib Sl) (H : DoesS Sl w0 w b own st h gm sr vi vg vh hl xs) (o : Obj) : DoesS Sl w0 (w.alloc o) b own st h gm sr vi vg vh hl ((w.heap.size, o) :: xs) := by
  have S := H.law.step L (World.grownBy_alloc w o none)
  refine ⟨⟨S.sl, S.own0, S.below, ⟨S.q.1, S.q.2.1, fun p hp => ?_⟩, DQ.on, ?_⟩, H.d1, fun p hp => ?_, fun p hp => ?_⟩
  · rcases List.mem_cons.1 hp with rfl | hp
    · exact heap_alloc_new w o
    · exact S.q.2.2 p hp
  · rintro k (hk | hk | ⟨p, hp, rfl⟩)
    · exact S.apart k (.inl hk)
    · exact S.apart k (.inr (.inl hk))
    · rcases List.mem_cons.1 hp with rfl | hp
      · exact ⟨by rw [World.size_alloc]; exact Nat.lt_succ_self _, fun ho => Nat.lt_irrefl _ (L.lt H.law.sl _ ho)⟩
      · exact S.apart p.1 (.inr (.inr ⟨p, hp, rfl⟩))
  · rcases List.mem_cons.1 hp with rfl | hp
    · exact ⟨fun hr => Nat.lt_irrefl _ (H.ref.lt _ hr), fun hv => Nat.lt_irrefl _ (H.row.lt _ hv).2⟩
    · exact H.d2 p hp
  · rcases List.mem_cons.1 hp with rfl | hp
    · exact H.law.below.size
    · exact H.x0 p hp
theorem DoesS.less (H : DoesS Sl w0 w b own st h gm sr vi vg vh hl xs) (ys : List (Nat × Obj)) (hy : ∀ p ∈ ys, p ∈ xs) : DoesS Sl w0 w b own st h gm sr vi vg vh hl ys :=
  ⟨H.law.less (fun _ hk => hk.elim .inl fun hk => .inr (hk.elim .inl fun ⟨p, hp, e⟩ => .inr ⟨p, hy p hp, e⟩)) ⟨H.law.q.1, H.law.q.2.1, fun p hp => H.law.q.2.2 p (hy p hp)⟩ DQ.on, H.d1, fun p hp => H.d2 p (hy p hp), fun p hp => H.x0 p (hy p hp)⟩
/-- A block of the statement's own is written: the first one. -/
theorem DoesS.set (L : SlabLib Sl) {k : Nat} {a c x y : Value} {t : TypeId} (H : DoesS Sl w0 w b own st h gm sr vi vg vh hl ((k, .cells #[a, c] t) :: xs)) (hx : ∀ p ∈ xs, p.1 ≠ k) : DoesS Sl w0 ((w.setCell ⟨k, 0, none⟩ x).setCell ⟨k, 1, none⟩ y) b own st h gm sr vi vg vh hl ((k, .cells #[x, y] t) :: xs) := by
  have hk := H.law.q.2.2 _ List.mem_cons_self
  have hap := H.law.apart k (.inr (.inr ⟨_, List.mem_cons_self, rfl⟩))
  have hd := H.d2 _ List.mem_cons_self
  have oth : ∀ j, j ≠ k → ((w.setCell ⟨k, 0, none⟩ x).setCell ⟨k, 1, none⟩ y).heap[j]? = w.heap[j]? := fun j hj => box_other hj
  have k0 := H.x0 _ List.mem_cons_self
  have hg : Gr (fun j => j = k) w ((w.setCell ⟨k, 0, none⟩ x).setCell ⟨k, 1, none⟩ y) := ⟨rfl, rfl, rfl, by rw [World.size_setCell, World.size_setCell]; exact Nat.le_refl _, fun j _ hj => oth j hj⟩
  have hsz : ((w.setCell ⟨k, 0, none⟩ x).setCell ⟨k, 1, none⟩ y).heap.size = w.heap.size := by rw [World.size_setCell, World.size_setCell]
  refine ⟨H.law.wrote L hg (fun j hj => by rw [hj]; exact ⟨k0, hap.2⟩) ?_ ⟨H.ref.same fun j hj => oth j (fun e => hd.1 (by rw [← e]; exact hj)), own_same H.row fun j hj => oth j (fun e => hd.2 (by rw [hj, e])), fun p hp => ?_⟩ DQ.on, H.d1, fun p hp => ?_, fun p hp => ?_⟩
  · rw [hsz]
    rintro j (hj | hj | ⟨p, hp, rfl⟩)
    · exact H.law.apart j (.inl hj)
    · exact H.law.apart j (.inr (.inl hj))
    · rcases List.mem_cons.1 hp with rfl | hp
      · exact hap
      · exact H.law.apart p.1 (.inr (.inr ⟨p, List.mem_cons_of_mem _ hp, rfl⟩))
  · rcases List.mem_cons.1 hp with rfl | hp
    · exact box_set hk x y
    · exact (oth p.1 (hx p hp)).trans (H.law.q.2.2 p (List.mem_cons_of_mem _ hp))
  · rcases List.mem_cons.1 hp with rfl | hp
    · exact hd
    · exact H.d2 p (List.mem_cons_of_mem _ hp)
  · rcases List.mem_cons.1 hp with rfl | hp
    · exact k0
    · exact H.x0 p (List.mem_cons_of_mem _ hp)
/-- One more that was taken. -/
theorem DoesS.app (L : SlabLib Sl) {tmp : Obj} (H : DoesS Sl w0 w b own st h gm sr vi vg vh hl xs) (x y : Int) (hown : w1.ownsRow w0.heap.size 35 2 vh' (hl.length + 1) (cksV hl ++ [.int .i64 x, .int .i64 y])) (hgrow : (w.alloc tmp).grownBy w1 vh.ownBlock) (hat : vh'.ownBlock = vh.ownBlock ∨ vh'.ownBlock = some (w.alloc tmp).heap.size) :
    DoesS Sl w0 w1 b own st h gm sr vi vg vh' (hl ++ [(x, y)]) xs := by
  have hsa : (w.alloc tmp).heap.size = w.heap.size + 1 := World.size_alloc _ _
  have hs1 := hgrow.size
  have old : ∀ k, k < w.heap.size → vh.ownBlock ≠ some k → w1.heap[k]? = w.heap[k]? := fun k hk hv => (hgrow.block k (by omega) (fun e => hv e.symm)).trans (Below.heap_alloc _ _ _ hk)
  have hv : ∀ k, vh'.ownBlock = some k → vh.ownBlock = some k ∨ w.heap.size ≤ k := fun k hk => by
    rcases hat with e | e
    · exact .inl (by rw [← e]; exact hk)
    · rw [e] at hk
      cases hk
      exact .inr (by omega)
  have hg : Gr (fun k => vh.ownBlock = some k) w w1 := ⟨hgrow.1, hgrow.2, hgrow.3, by omega, fun k hk hr => old k hk hr⟩
  have hown2 : w1.ownsRow w0.heap.size 35 2 vh' (hl ++ [(x, y)]).length (cksV (hl ++ [(x, y)])) := by
    rw [List.length_append, cksV_app]
    exact hown
  refine ⟨H.law.wrote L hg (fun k hk => ⟨(H.row.lt k hk).1, (H.law.apart k (.inr (.inl hk))).2⟩) ?_ ⟨H.ref.same fun k hk => old k (H.ref.lt k hk) (fun e => H.d1 k e hk), hown2, fun p hp => (old p.1 (H.law.apart p.1 (.inr (.inr ⟨p, hp, rfl⟩))).1 (H.d2 p hp).2).trans (H.law.q.2.2 p hp)⟩ DQ.on, fun k hk hr => ?_, fun p hp => ⟨(H.d2 p hp).1, fun e => ?_⟩, H.x0⟩
  · rintro k (hk | hk | hk)
    · exact ⟨Nat.lt_of_lt_of_le (H.law.apart k (.inl hk)).1 (by omega), (H.law.apart k (.inl hk)).2⟩
    · refine ⟨(hown2.lt k hk).2, fun ho => ?_⟩
      rcases hv k hk with e | e
      · exact (H.law.apart k (.inr (.inl e))).2 ho
      · exact Nat.not_lt_of_le e (L.lt H.law.sl k ho)
    · exact ⟨Nat.lt_of_lt_of_le (H.law.apart k (.inr (.inr hk))).1 (by omega), (H.law.apart k (.inr (.inr hk))).2⟩
  · rcases hv k hk with e | e
    · exact H.d1 k e hr
    · exact Nat.not_lt_of_le e (H.ref.lt k hr)
  · rcases hv p.1 e with e | e
    · exact (H.d2 p hp).2 e
    · exact Nat.not_lt_of_le e (H.law.apart p.1 (.inr (.inr ⟨p, hp, rfl⟩))).1
end
end Go.Proofs.Ytdjagifmcimedaa
