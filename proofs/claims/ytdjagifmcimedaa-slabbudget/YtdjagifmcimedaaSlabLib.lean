/- The chapter's example of layer 7, over the contracts of package slab. Conditions: the contracts. -/
import Derived.Test.YtdjagifmcimedaaSlabCon
import Derived.Test.YtdjagifmcimedaaOps7
namespace Go.Proofs.Ytdjagifmcimedaa
open Go.RowKit
variable {Sl : World → Nat → (Nat → Prop) → Sb → Prop}

theorem grew_new {w0 w : World} {own own' : Nat → Prop} (h : ∀ k, own k → w0.heap.size ≤ k) (hw : w0.heap.size ≤ w.heap.size) (hg : Grew w own own') : ∀ k, own' k → w0.heap.size ≤ k := fun k hk => (hg k hk).elim (h k) (fun x => Nat.le_trans hw x)
theorem i64_lit (a : Int) (h : -9223372036854775808 ≤ a ∧ a < 9223372036854775808 := by decide) : I64 a := h
/-- Where a statement stands: the slab, and beside it memory of the statement's own: Q holds, and hangs on the blocks B alone, none of which is the slab's. -/
structure LawS (Sl : World → Nat → (Nat → Prop) → Sb → Prop) (w0 w : World) (b : Nat) (own : Nat → Prop) (st : Sb) (B : Nat → Prop) (Q : World → Prop) : Prop where
  sl : Sl w b own st
  own0 : ∀ k, own k → w0.heap.size ≤ k
  below : Below w0.heap.size w0 w
  q : Q w
  on : ∀ w1 w2 : World, Q w1 → (∀ k, B k → w2.heap[k]? = w1.heap[k]?) → Q w2
  apart : ∀ k, B k → k < w.heap.size ∧ ¬ own k
section
variable {w0 w w' : World} {b : Nat} {own own' : Nat → Prop} {st st' : Sb} {B B' : Nat → Prop} {Q Q' : World → Prop}
theorem LawS.step (L : SlabLib Sl) (H : LawS Sl w0 w b own st B Q) (hg : w.grownBy w' none) : LawS Sl w0 w' b own st B Q :=
  ⟨L.kept H.sl hg, H.own0, gr_below H.below hg (fun _ e => by cases e), H.on w w' H.q fun k hk => hg.block k (H.apart k hk).1 (by simp), H.on, fun k hk => ⟨Nat.lt_of_lt_of_le (H.apart k hk).1 hg.size, (H.apart k hk).2⟩⟩
theorem LawS.turn (H : LawS Sl w0 w b own st B Q) (hF : Sl w' b own' st') (hg : Gr own w w') (hgr : Grew w own own') : LawS Sl w0 w' b own' st' B Q :=
  ⟨hF, grew_new H.own0 H.below.size hgr, Gr.below H.below hg H.own0, H.on w w' H.q fun k hk => hg.block k (H.apart k hk).1 (H.apart k hk).2, H.on, fun k hk => ⟨Nat.lt_of_lt_of_le (H.apart k hk).1 hg.size, fun ho => (hgr k ho).elim (H.apart k hk).2 (fun x => Nat.not_lt_of_le x (H.apart k hk).1)⟩⟩
/-- A new block of the statement's own. -/
theorem LawS.box (L : SlabLib Sl) (H : LawS Sl w0 w b own st B Q) (o : Obj) : LawS Sl w0 (w.alloc o) b own st (fun k => B k ∨ k = w.heap.size) (fun V => Q V ∧ V.heap[w.heap.size]? = some o) := by
  have hg := World.grownBy_alloc w o none
  have S := H.step L hg
  refine ⟨S.sl, S.own0, S.below, ⟨S.q, heap_alloc_new w o⟩, fun w1 w2 h1 h2 => ⟨H.on w1 w2 h1.1 fun k hk => h2 k (.inl hk), (h2 _ (.inr rfl)).trans h1.2⟩, ?_⟩
  rintro k (hk | rfl)
  · exact S.apart k hk
  · exact ⟨by rw [World.size_alloc]; omega, fun ho => Nat.lt_irrefl _ (L.lt H.sl _ ho)⟩
/-- Less is known. -/
theorem LawS.less (H : LawS Sl w0 w b own st B Q) (hB : ∀ k, B' k → B k) (hq : Q' w) (on : ∀ w1 w2 : World, Q' w1 → (∀ k, B' k → w2.heap[k]? = w1.heap[k]?) → Q' w2) : LawS Sl w0 w b own st B' Q' :=
  ⟨H.sl, H.own0, H.below, hq, on, fun k hk => H.apart k (hB k hk)⟩
theorem LawS.none (H : LawS Sl w0 w b own st B Q) : LawS Sl w0 w b own st (fun _ => False) (fun _ => True) := H.less (fun _ h => h.elim) trivial fun _ _ _ _ => trivial
/-- The statement writes into its own. -/
theorem LawS.wrote (H : LawS Sl w0 w b own st B Q) {F : Nat → Prop} (L : SlabLib Sl) (hg : Gr F w w') (hF : ∀ k, F k → w0.heap.size ≤ k ∧ ¬ own k) (hB : ∀ k, B' k → k < w'.heap.size ∧ ¬ own k) (hq : Q' w') (on : ∀ w1 w2 : World, Q' w1 → (∀ k, B' k → w2.heap[k]? = w1.heap[k]?) → Q' w2) : LawS Sl w0 w' b own st B' Q' :=
  ⟨L.apart H.sl hg (fun k hk hf => (hF k hf).2 hk), H.own0, Gr.below H.below hg (fun k hk => (hF k hk).1), hq, on, hB⟩
/-- A call, from the statement's own start on. -/
theorem new_is (L : SlabLib Sl) (bud : Int) (hb : I64 bud) (hB : Below w0.heap.size w0 w) : Calls Try.prog 13 #[.int .i64 bud] w fun e w' => ∃ b own, e = .returned (.pointer (some ⟨b, 0, none⟩)) ∧ LawS Sl w0 w' b own (freshS bud) (fun _ => False) (fun _ => True) :=
  (L.new bud hb w).mono fun _ _ ⟨b, own, h1, h2, h3, h4⟩ => ⟨b, own, h1, h3, fun k hk => Nat.le_trans hB.size (h2 k hk), gr_below hB h4 (fun _ e => by cases e), trivial, fun _ _ _ _ => trivial, fun _ h => h.elim⟩
theorem take_is (L : SlabLib Sl) (H : LawS Sl w0 w b own st B Q) (hs : Small st 10000) (size : Int) (hz : I64 size) (x y e : Int) (t : Sb) (hc : takeCk st size = (x, y)) (he : takeErr st size = e) (ht : takeS st size = t) :
    Calls Try.prog 15 #[.pointer (some ⟨b, 0, none⟩), .int .i64 size] w fun en w' => en = .returned (.tuple #[.agg #[.int .i64 x, .int .i64 y], .int .i64 e]) ∧ ∃ own', LawS Sl w0 w' b own' t B Q :=
  (L.take H.sl hs size hz).mono fun _ _ ⟨h1, own', h2, h3, h4⟩ => ⟨by rw [h1, hc, he]; rfl, own', by rw [← ht]; exact H.turn h2 h3 h4⟩
theorem free_is (L : SlabLib Sl) (H : LawS Sl w0 w b own st B Q) (hs : Small st 10000) (x y : Int) (hx : I64 x) (hy : I64 y) (e : Int) (t : Sb) (he : freeErr st (x, y) = e) (ht : freeS st (x, y) = t) :
    Calls Try.prog 17 #[.pointer (some ⟨b, 0, none⟩), .agg #[.int .i64 x, .int .i64 y]] w fun en w' => en = .returned (.int .i64 e) ∧ ∃ own', LawS Sl w0 w' b own' t B Q :=
  (L.free H.sl hs (x, y) ⟨hx, hy⟩).mono fun _ _ ⟨h1, own', h2, h3, h4⟩ => ⟨by rw [h1, he], own', by rw [← ht]; exact H.turn h2 h3 h4⟩
theorem has_is (L : SlabLib Sl) (H : LawS Sl w0 w b own st B Q) (hs : Small st 10000) (x y : Int) (hx : I64 x) (hy : I64 y) (q : Bool) (hq : decide ((x, y) ∈ st.inn) = q) :
    Calls Try.prog 19 #[.pointer (some ⟨b, 0, none⟩), .agg #[.int .i64 x, .int .i64 y]] w fun en w' => en = .returned (.bool q) ∧ LawS Sl w0 w' b own st B Q :=
  (L.has H.sl hs (x, y) ⟨hx, hy⟩).mono fun _ _ ⟨h1, _, h3⟩ => ⟨by rw [h1, hq], H.step L h3⟩
theorem used_is (L : SlabLib Sl) (H : LawS Sl w0 w b own st B Q) (hs : Small st 10000) (n : Int) (hn : usedS st = n) :
    Calls Try.prog 23 #[.pointer (some ⟨b, 0, none⟩)] w fun en w' => en = .returned (.int .i64 n) ∧ LawS Sl w0 w' b own st B Q :=
  (L.used H.sl hs).mono fun _ _ ⟨h1, _, h3⟩ => ⟨by rw [h1, hn], H.step L h3⟩
end
theorem cells2 {w : World} {k : Nat} {t : TypeId} {x y : Value} (h : w.heap[k]? = some (.cells #[x, y] t (0, 0))) : w.cell? ⟨k, 0, none⟩ = some x ∧ w.cell? ⟨k, 1, none⟩ = some y := by
  simp [World.cell?, h]
set_option maxHeartbeats 2000000 in
theorem awake_any (L : SlabLib Sl) (w : World) : Calls Try.prog 8 #[] w fun e w' => e = .returned (.bool true) ∧ Below w.heap.size w w' := by
  have hB : Below w.heap.size w w := Below.refl _ _
  have s0 : Small (freshS 200) 10000 := small_mono (small_fresh _) (by decide)
  have H1 := hide (show takeCk (freshS 200) 65 = (1, 0) ∧ takeErr (freshS 200) 65 = 0 by decide)
  have s1 : Small (takeS (freshS 200) 65) 10000 := small_mono (small_take (small_fresh _) 65) (by decide)
  have H2 := hide (show takeCk (takeS (freshS 200) 65) 1 = (0, 0) ∧ takeErr (takeS (freshS 200) 65) 1 = 0 by decide)
  have s2 : Small (takeS (takeS (freshS 200) 65) 1) 10000 := small_mono (small_take (small_take (small_fresh _) 65) 1) (by decide)
  have H3 := hide (show takeCk (takeS (takeS (freshS 200) 65) 1) 1 = (0, 0) ∧ takeErr (takeS (takeS (freshS 200) 65) 1) 1 = 5 by decide)
  have s3 : Small (takeS (takeS (takeS (freshS 200) 65) 1) 1) 10000 := small_mono (small_take (small_take (small_take (small_fresh _) 65) 1) 1) (by decide)
  have H4 := hide (show usedS (takeS (takeS (takeS (freshS 200) 65) 1) 1) = 192 by decide)
  obtain ⟨t1, T1⟩ : ∃ t, takeS (freshS 200) 65 = t := ⟨_, rfl⟩
  rw [T1] at H2 H3 H4 s1 s2 s3
  obtain ⟨t2, T2⟩ : ∃ t, takeS t1 1 = t := ⟨_, rfl⟩
  rw [T2] at H3 H4 s2 s3
  obtain ⟨t3, T3⟩ : ∃ t, takeS t2 1 = t := ⟨_, rfl⟩
  rw [T3] at H4 s3
  have K1 := hide T1
  have K2 := hide T2
  have K3 := hide T3
  clear T1 T2 T3
  go_enter Try.func8, Try.ntmps8
  go_wp2_with (first
    | (go_at_call 13; refine (new_is L 200 (i64_lit _) hB).mono ?_; clear hB; rintro e w1 ⟨b, own, rfl, H⟩)
    | (go_at_call 15; have t := K1; clear t; refine (take_is L H s0 65 (i64_lit _) 1 0 0 t1 H1.out.1 H1.out.2 K1.out).mono ?_; clear H H1 K1; rintro e w2 ⟨rfl, own, H⟩; replace H := H.box L (.cells #[.int .i64 1, .int .i64 0] 35))
    | (go_at_call 15; have t := K2; clear t; refine (take_is L H s1 1 (i64_lit _) 0 0 0 t2 H2.out.1 H2.out.2 K2.out).mono ?_; clear H H2 K2; rintro e w3 ⟨rfl, own, H⟩; replace H := H.box L (.cells #[.int .i64 0, .int .i64 0] 35))
    | (go_at_call 15; have t := K3; clear t; refine (take_is L H s2 1 (i64_lit _) 0 0 5 t3 H3.out.1 H3.out.2 K3.out).mono ?_; clear H H3 K3; rintro e w4 ⟨rfl, own, H⟩; replace H := H.box L (.cells #[.int .i64 0, .int .i64 0] 35); have c1 := cells2 H.q.1.1.2; have c2 := cells2 H.q.1.2; obtain ⟨c10, c11⟩ := c1; obtain ⟨c20, c21⟩ := c2)
    | (go_at_call 23; refine (used_is L H s3 192 H4.out).mono ?_; clear H; rintro e w5 ⟨rfl, H⟩; have hB := H.below))
  go_ret
  exact ⟨rfl, hB⟩
end Go.Proofs.Ytdjagifmcimedaa
