/- A statement's own slices beside the slab: what was appended lies there, and is none of the slab's. Conditions: the contracts of package slab. -/
import Derived.Test.YtdjagifmcimedaaSlabLib
import Derived.Test.YtdjagifmcimedaaAppendStep
import Derived.Test.YtdjagifmcimedaaParts
import Derived.Maps.AppendAt
import Derived.Laws.OwnMore
import Derived.RegionTactic
namespace Go.Proofs.Ytdjagifmcimedaa
open Go.RowKit
variable {Sl : World → Nat → (Nat → Prop) → Sb → Prop}

structure LawR (Sl : World → Nat → (Nat → Prop) → Sb → Prop) (w0 w : World) (b : Nat) (own : Nat → Prop) (st : Sb) (e : TypeId) (size : Nat) (v : Value) (n : Nat) (xs : List Value) (B : Nat → Prop) (Q : World → Prop) : Prop where
  law : LawS Sl w0 w b own st (fun k => B k ∨ v.ownBlock = some k) (fun V => Q V ∧ V.ownsRow w0.heap.size e size v n xs)
  on : ∀ w1 w2 : World, Q w1 → (∀ k, B k → w2.heap[k]? = w1.heap[k]?) → Q w2
  dis : ∀ k, B k → v.ownBlock ≠ some k
section
variable {w0 w w' w1 : World} {b : Nat} {own own' : Nat → Prop} {st st' : Sb} {B : Nat → Prop} {Q : World → Prop} {e : TypeId} {size n : Nat} {v v' : Value} {xs news : List Value}
theorem LawR.nil (H : LawS Sl w0 w b own st B Q) : LawR Sl w0 w b own st e size (.slice none 0 0) 0 [] B Q where
  law := H.less (fun k h => h.elim id (fun h => by simp [Value.ownBlock] at h)) ⟨H.q, World.ownsRow_nil _ _ _ _⟩ fun w1 w2 h1 h2 => ⟨H.on w1 w2 h1.1 fun k hk => h2 k (.inl hk), World.ownsRow_nil _ _ _ _⟩
  on := H.on
  dis := fun k _ => by simp [Value.ownBlock]
theorem LawR.step (L : SlabLib Sl) (H : LawR Sl w0 w b own st e size v n xs B Q) (hg : w.grownBy w' none) : LawR Sl w0 w' b own st e size v n xs B Q := ⟨H.law.step L hg, H.on, H.dis⟩
theorem LawR.to (H : LawR Sl w0 w b own st e size v n xs B Q) (h : LawS Sl w0 w' b own' st' (fun k => B k ∨ v.ownBlock = some k) (fun V => Q V ∧ V.ownsRow w0.heap.size e size v n xs)) : LawR Sl w0 w' b own' st' e size v n xs B Q := ⟨h, H.on, H.dis⟩
theorem LawR.row (H : LawR Sl w0 w b own st e size v n xs B Q) : w.ownsRow w0.heap.size e size v n xs := H.law.q.2
/-- Behind an append. -/
theorem LawR.app (L : SlabLib Sl) (H : LawR Sl w0 w b own st e size v n xs B Q) {m : Nat} {tmp : Obj} (hown' : w1.ownsRow w0.heap.size e size v' (n + m) (xs ++ news)) (hgrow : (w.alloc tmp).grownBy w1 v.ownBlock) (hat : v'.ownBlock = v.ownBlock ∨ v'.ownBlock = some (w.alloc tmp).heap.size) :
    LawR Sl w0 w1 b own st e size v' (n + m) (xs ++ news) B Q := by
  have S := H.law.step L (World.grownBy_alloc w tmp none)
  have hsz := H.law.below.size
  have hsa : (w.alloc tmp).heap.size = w.heap.size + 1 := World.size_alloc _ _
  have hgr : Gr (fun k => v.ownBlock = some k) (w.alloc tmp) w1 := Gr.of hgrow
  have hv : ∀ k, v.ownBlock = some k → w0.heap.size ≤ k ∧ ¬ own k := fun k hk => ⟨(H.row.lt k hk).1, (H.law.apart k (.inr hk)).2⟩
  have hdis : ∀ k, B k → v'.ownBlock ≠ some k := fun k hk => by
    rcases hat with e1 | e1
    · rw [e1]; exact H.dis k hk
    · rw [e1]
      intro e2
      have := (H.law.apart k (.inl hk)).1
      have e3 := Option.some.inj e2
      omega
  refine ⟨S.wrote L hgr hv ?_ ⟨?_, hown'⟩ ?_, H.on, hdis⟩
  · rintro k (hk | hk)
    · exact ⟨Nat.lt_of_lt_of_le (S.apart k (.inl hk)).1 hgrow.size, (S.apart k (.inl hk)).2⟩
    · refine ⟨(hown'.lt k hk).2, ?_⟩
      rcases hat with e1 | e1
      · rw [e1] at hk; exact (hv k hk).2
      · rw [e1] at hk
        have e3 := Option.some.inj hk
        intro ho
        have := L.lt H.law.sl k ho
        omega
  · exact H.on _ _ S.q.1 fun k hk => hgrow.block k (S.apart k (.inl hk)).1 (fun e2 => H.dis k hk e2.symm)
  · exact fun w1 w2 h1 h2 => ⟨H.on w1 w2 h1.1 fun k hk => h2 k (.inl hk), own_same h1.2 fun k hk => h2 k (.inr hk)⟩
end
/-- Chunks as cells. -/
def cksV (l : List Ck) : List Value := l.flatMap fun c => [.int .i64 c.1, .int .i64 c.2]
theorem cksV_len : ∀ l : List Ck, (cksV l).length = l.length * 2
  | [] => rfl
  | c :: l => by
    show ([_, _] ++ cksV l).length = _
    rw [List.length_append, cksV_len l, List.length_cons]
    simp
    omega
theorem cksV_app (l : List Ck) (c : Ck) : cksV (l ++ [c]) = cksV l ++ [.int .i64 c.1, .int .i64 c.2] := by simp [cksV]
theorem cksV_get : ∀ (l : List Ck) (i : Nat) (h : i < l.length), (cksV l)[i * 2]? = some (.int .i64 l[i].1) ∧ (cksV l)[i * 2 + 1]? = some (.int .i64 l[i].2)
  | c :: l, 0, _ => ⟨rfl, rfl⟩
  | c :: l, i + 1, h => by
    have ih := cksV_get l i (by simpa using h)
    have e : cksV (c :: l) = .int .i64 c.1 :: .int .i64 c.2 :: cksV l := rfl
    rw [e, show (i + 1) * 2 = i * 2 + 1 + 1 by omega]
    exact ih
/-- One of them, in memory. -/
theorem chunk_at {w : World} {base : Nat} {v : Value} {l : List Ck} (h : w.ownsRow base 35 2 v l.length (cksV l)) (i : Nat) (hi : i < l.length) :
    ∃ g cap, v = .slice (some ⟨g, 0, none⟩) l.length cap ∧ w.cell? ⟨g, i * 2, none⟩ = some (.int .i64 l[i].1) ∧ w.cell? ⟨g, i * 2 + 1, none⟩ = some (.int .i64 l[i].2) := by
  obtain ⟨g, cap, rfl⟩ := own_form h (by omega)
  exact ⟨g, cap, rfl, (h.cellAt (i * 2) (by omega)).trans (cksV_get l i hi).1, (h.cellAt (i * 2 + 1) (by omega)).trans (cksV_get l i hi).2⟩
theorem info_chunk : (Try.prog.info? 35).map (fun i => (i.zero, i.size, i.bytes)) = some (some (.agg #[.int .i64 0, .int .i64 0]), 2, 16) := by kernel_rfl
/-- A chunk that a slab hands out is one of the program's. -/
theorem take_ok {st : Sb} (h : GoodS st) (hs : Small st 10000) (size : Int) : CkOk (takeCk st size) := by
  unfold takeCk
  split
  · have hk := cls_lt size
    have h1 := next_cls st (clsOf size)
    have hb : ∀ j, st.made.getD j 0 ≤ 10000 := fun j => by
      by_cases hj : j < st.made.length
      · simp only [List.getD, List.getElem?_eq_getElem hj, Option.getD_some]
        exact hs.made _ (List.getElem_mem hj)
      · simp [List.getD, List.getElem?_eq_none (Nat.le_of_not_lt hj)]
    rcases next_cases st (clsOf size) with ⟨h2, _⟩ | ⟨_, h2⟩
    · obtain ⟨a1, a2, a3, a4⟩ := h.cls _ (List.mem_append_right _ h2)
      have := hb (nextS st (clsOf size)).1.toNat
      exact ⟨⟨by omega, by omega⟩, ⟨by omega, by omega⟩⟩
    · have := hb (clsOf size)
      rw [h2]
      exact ⟨⟨by show _ ≤ ((clsOf size : Nat) : Int); omega, by show ((clsOf size : Nat) : Int) < _; omega⟩, ⟨by show _ ≤ ((st.made.getD (clsOf size) 0 : Nat) : Int); omega, by show ((st.made.getD (clsOf size) 0 : Nat) : Int) < _; omega⟩⟩
  · exact ⟨i64_lit 0, i64_lit 0⟩
theorem inn_ok {st : Sb} (h : GoodS st) (hs : Small st 10000) (c : Ck) (hc : c ∈ st.inn) : CkOk c := by
  obtain ⟨a1, a2, a3, a4⟩ := h.cls _ (List.mem_append_left _ hc)
  have hb : st.made.getD c.1.toNat 0 ≤ 10000 := by
    by_cases hj : c.1.toNat < st.made.length
    · simp only [List.getD, List.getElem?_eq_getElem hj, Option.getD_some]
      exact hs.made _ (List.getElem_mem hj)
    · simp [List.getD, List.getElem?_eq_none (Nat.le_of_not_lt hj)]
  exact ⟨⟨by omega, by omega⟩, ⟨by omega, by omega⟩⟩
theorem take_zero {st : Sb} {size : Int} (h : takeErr st size = 0) : (takeS st size).inn = st.inn ++ [takeCk st size] := by
  unfold takeS takeCk
  rw [if_pos h, if_pos h]
  unfold addC
  split <;> rfl
theorem take_not {st : Sb} {size : Int} (h : ¬ takeErr st size = 0) : takeS st size = st := by
  unfold takeS
  rw [if_neg h]
theorem free_in {st : Sb} (h : GoodS st) {c : Ck} (hc : c ∈ st.inn) : freeErr st c = 0 ∧ freeErr (freeS st c) c = 1 ∧ freeS (freeS st c) c = freeS st c ∧ usedS (freeS st c) = usedS st - bytesC c.1 ∧ ∀ d, (d ∈ (freeS st c).inn ↔ d ∈ st.inn ∧ d ≠ c) := by
  have hn : st.inn.Nodup := (List.nodup_append.1 h.nodup).1
  have e : (freeS st c).inn = st.inn.erase c := by unfold freeS; rw [if_pos hc]
  have hm : ∀ d, (d ∈ (freeS st c).inn ↔ d ∈ st.inn ∧ d ≠ c) := fun d => by
    rw [e, hn.mem_erase_iff]
    exact And.comm
  have hno : ¬ c ∈ (freeS st c).inn := fun x => ((hm c).1 x).2 rfl
  refine ⟨if_pos hc, if_neg hno, ?_, ?_, hm⟩
  · show (if c ∈ (freeS st c).inn then _ else freeS st c) = _
    rw [if_neg hno]
  · show sumB (freeS st c).inn = _
    rw [e, sumB_erase _ _ hc]
    rfl
theorem cell_two_new (w : World) (x y : Value) (t : TypeId) : ∀ j u, [x, y][j]? = some u → (w.alloc (.cells #[x, y] t)).cell? ((⟨w.heap.size, 0, none⟩ : Addr).add j) = some u := by
  intro j u h
  have hh : (w.alloc (.cells #[x, y] t)).heap[w.heap.size]? = some (.cells #[x, y] t) := heap_alloc_new w _
  have hadd : (⟨w.heap.size, 0, none⟩ : Addr).add j = ⟨w.heap.size, j, none⟩ := by unfold Addr.add; split <;> simp_all
  rw [hadd, cell_of_row _ _ _ _ _ _ hh]
  simpa using h

theorem cell_two_more (w : World) (o : Obj) (x y : Value) (t : TypeId) : ∀ j u, [x, y][j]? = some u → ((w.alloc o).alloc (.cells #[x, y] t)).cell? ((⟨w.heap.size + 1, 0, none⟩ : Addr).add j) = some u := by
  have := cell_two_new (w.alloc o) x y t
  rwa [World.size_alloc] at this
theorem chunk_cells {w : World} {base g cap n : Nat} {l : List Ck} (h : w.ownsRow base 35 2 (.slice (some ⟨g, 0, none⟩) n cap) n (cksV l)) (i : Nat) (hi : i < l.length) :
    w.cell? ⟨g, i * 2, none⟩ = some (.int .i64 l[i].1) ∧ w.cell? ⟨g, i * 2 + 1, none⟩ = some (.int .i64 l[i].2) := by
  have hl := h.1
  rw [cksV_len] at hl
  exact ⟨(h.cellAt (i * 2) (by omega)).trans (cksV_get l i hi).1, (h.cellAt (i * 2 + 1) (by omega)).trans (cksV_get l i hi).2⟩
/-- Numbers as cells. -/
def errV (l : List Int) : List Value := l.map fun e => .int .i64 e
theorem err_cells {w : World} {base g cap n : Nat} {t : TypeId} {l : List Int} (h : w.ownsRow base t 1 (.slice (some ⟨g, 0, none⟩) n cap) n (errV l)) (i : Nat) (hi : i < l.length) : w.cell? ⟨g, i, none⟩ = some (.int .i64 l[i]) := by
  have hl := h.1
  unfold errV at hl
  rw [List.length_map] at hl
  rw [h.cellAt i (by omega)]
  unfold errV
  rw [List.getElem?_map, List.getElem?_eq_getElem hi]
  rfl
/-- Two slices: either may be the one that is appended to. -/
theorem LawR.swap {w0 w : World} {b : Nat} {own : Nat → Prop} {st : Sb} {e1 e2 : TypeId} {s1 s2 n1 n2 : Nat} {v1 v2 : Value} {x1 x2 : List Value}
    (H : LawR Sl w0 w b own st e1 s1 v1 n1 x1 (fun k => v2.ownBlock = some k) (fun V => V.ownsRow w0.heap.size e2 s2 v2 n2 x2)) : LawR Sl w0 w b own st e2 s2 v2 n2 x2 (fun k => v1.ownBlock = some k) (fun V => V.ownsRow w0.heap.size e1 s1 v1 n1 x1) where
  law := H.law.less (fun _ h => h.symm) ⟨H.law.q.2, H.law.q.1⟩ fun _ _ h1 h2 => ⟨own_same h1.1 fun k hk => h2 k (.inl hk), own_same h1.2 fun k hk => h2 k (.inr hk)⟩
  on := fun _ _ h1 h2 => own_same h1 h2
  dis := fun k hk h2 => H.dis k h2 hk
theorem LawR.more {w0 w : World} {b : Nat} {own : Nat → Prop} {st : Sb} {e1 e2 : TypeId} {s1 s2 n1 : Nat} {v1 : Value} {x1 : List Value} (H : LawR Sl w0 w b own st e1 s1 v1 n1 x1 (fun _ => False) (fun _ => True)) :
    LawR Sl w0 w b own st e1 s1 v1 n1 x1 (fun k => (Value.slice none 0 0).ownBlock = some k) (fun V => V.ownsRow w0.heap.size e2 s2 (.slice none 0 0) 0 []) where
  law := H.law.less (fun k h => h.elim (fun h => by simp [Value.ownBlock] at h) .inr) ⟨World.ownsRow_nil _ _ _ _, H.law.q.2⟩ fun _ _ h1 h2 => ⟨World.ownsRow_nil _ _ _ _, own_same h1.2 fun k hk => h2 k (.inr hk)⟩
  on := fun _ _ h1 h2 => own_same h1 h2
  dis := fun k hk => by simp [Value.ownBlock] at hk
theorem hbase2 {w W : World} {o : Obj} (h : w.heap.size ≤ W.heap.size) : w.heap.size ≤ (W.alloc o).heap.size := Nat.le_trans h (by rw [World.size_alloc]; exact Nat.le_succ _)
/-- A block of the statement's own, beside its slice. -/
theorem LawR.box (L : SlabLib Sl) {w0 w : World} {b : Nat} {own : Nat → Prop} {st : Sb} {e : TypeId} {size n : Nat} {v : Value} {xs : List Value} {B : Nat → Prop} {Q : World → Prop} (H : LawR Sl w0 w b own st e size v n xs B Q) (o : Obj) :
    LawR Sl w0 (w.alloc o) b own st e size v n xs (fun k => B k ∨ k = w.heap.size) (fun V => Q V ∧ V.heap[w.heap.size]? = some o) where
  law := (H.law.box L o).less (fun k h => by
      rcases h with (h | h) | h
      · exact .inl (.inl h)
      · exact .inr h
      · exact .inl (.inr h)) ⟨⟨(H.law.box L o).q.1.1, (H.law.box L o).q.2⟩, (H.law.box L o).q.1.2⟩ fun w1 w2 h1 h2 => ⟨⟨H.on w1 w2 h1.1.1 fun k hk => h2 k (.inl (.inl hk)), (h2 _ (.inl (.inr rfl))).trans h1.1.2⟩, own_same h1.2 fun k hk => h2 k (.inr hk)⟩
  on := fun w1 w2 h1 h2 => ⟨H.on w1 w2 h1.1 fun k hk => h2 k (.inl hk), (h2 _ (.inr rfl)).trans h1.2⟩
  dis := by
    rintro k (hk | rfl)
    · exact H.dis k hk
    · intro hv
      exact Nat.lt_irrefl _ (H.row.lt _ hv).2
/-- Another slice in its place, in new memory. -/
theorem LawR.anew (L : SlabLib Sl) {w0 w w2 : World} {b : Nat} {own : Nat → Prop} {st : Sb} {e : TypeId} {size n n2 : Nat} {v v2 : Value} {xs xs2 : List Value} {B : Nat → Prop} {Q : World → Prop} (H : LawR Sl w0 w b own st e size v n xs B Q)
    (hg : w.grownBy w2 none) (hown : w2.ownsRow w0.heap.size e size v2 n2 xs2) (hnew : ∀ j, v2.ownBlock = some j → w.heap.size ≤ j) : LawR Sl w0 w2 b own st e size v2 n2 xs2 B Q where
  law := by
    have S := H.law.step L hg
    refine ⟨S.sl, S.own0, S.below, ⟨S.q.1, hown⟩, fun w1 w2 h1 h2 => ⟨H.on w1 w2 h1.1 fun k hk => h2 k (.inl hk), own_same h1.2 fun k hk => h2 k (.inr hk)⟩, ?_⟩
    rintro k (hk | hk)
    · exact S.apart k (.inl hk)
    · exact ⟨(hown.lt k hk).2, fun ho => Nat.not_lt_of_le (hnew k hk) (L.lt H.law.sl k ho)⟩
  on := H.on
  dis := fun k hk hv => Nat.not_lt_of_le (hnew k hv) (H.law.apart k (.inl hk)).1
theorem LawR.less {w0 w : World} {b : Nat} {own : Nat → Prop} {st : Sb} {e : TypeId} {size n : Nat} {v : Value} {xs : List Value} {B : Nat → Prop} {Q : World → Prop} (H : LawR Sl w0 w b own st e size v n xs B Q) :
    LawR Sl w0 w b own st e size v n xs (fun _ => False) (fun _ => True) where
  law := H.law.less (fun _ h => h.elim (fun h => h.elim) .inr) ⟨trivial, H.row⟩ fun _ _ h1 h2 => ⟨trivial, own_same h1.2 fun k hk => h2 k (.inr hk)⟩
  on := fun _ _ _ _ => trivial
  dis := fun _ h => h.elim
/-- Chunks without one of them. -/
theorem cksV_erase (l : List Ck) (k : Nat) : (cksV l).take (k * 2) ++ (cksV l).drop ((k + 1) * 2) = cksV (l.eraseIdx k) := by
  have tk : ∀ (l : List Ck) (k : Nat), (cksV l).take (k * 2) = cksV (l.take k) := by
    intro l
    induction l with
    | nil => intro k; simp [cksV]
    | cons c l ih =>
      intro k
      cases k with
      | zero => simp [cksV]
      | succ k =>
        show (.int .i64 c.1 :: .int .i64 c.2 :: cksV l).take ((k + 1) * 2) = .int .i64 c.1 :: .int .i64 c.2 :: cksV (l.take k)
        rw [show (k + 1) * 2 = k * 2 + 1 + 1 by omega, List.take_succ_cons, List.take_succ_cons, ih]
  have dr : ∀ (l : List Ck) (k : Nat), (cksV l).drop (k * 2) = cksV (l.drop k) := by
    intro l
    induction l with
    | nil => intro k; simp [cksV]
    | cons c l ih =>
      intro k
      cases k with
      | zero => simp
      | succ k =>
        show (.int .i64 c.1 :: .int .i64 c.2 :: cksV l).drop ((k + 1) * 2) = cksV (l.drop k)
        rw [show (k + 1) * 2 = k * 2 + 1 + 1 by omega, List.drop_succ_cons, List.drop_succ_cons, ih]
  rw [tk, dr, List.eraseIdx_eq_take_drop_succ]
  simp [cksV]
theorem erase_idx {l : List Ck} (hn : l.Nodup) (k : Nat) (h : k < l.length) : l.erase l[k] = l.eraseIdx k := by
  induction l generalizing k with
  | nil => cases h
  | cons c l ih =>
    cases k with
    | zero => simp
    | succ k =>
      rw [List.nodup_cons] at hn
      have hk : k < l.length := by simpa using h
      have hne : ¬ c = l[k] := fun e => hn.1 (by rw [e]; exact List.getElem_mem hk)
      rw [List.getElem_cons_succ, List.erase_cons_tail (by simpa using hne), ih hn.2 k hk]
      rfl
theorem cksV_one (l : List Ck) : ∀ u ∈ cksV l, u.oneCell' = true := by
  intro u hu
  obtain ⟨c, _, hc⟩ := List.mem_flatMap.1 hu
  simp at hc
  rcases hc with rfl | rfl <;> rfl
theorem take_news {w : World} {base g n cap : Nat} {l : List Ck} (h : w.ownsRow base 35 2 (.slice (some ⟨g, 0, none⟩) n cap) n (cksV l)) (k : Nat) (hk : k < l.length) :
    ∀ j u, ((cksV l).take (k * 2))[j]? = some u → w.cell? ((⟨g, 0, none⟩ : Addr).add j) = some u := by
  intro j u hu
  have hl := h.1
  rw [cksV_len] at hl
  have hj : j < k * 2 := by
    have := (List.getElem?_eq_some_iff.1 hu).1
    rw [List.length_take] at this
    omega
  rw [List.getElem?_take, if_pos hj] at hu
  have hadd : (⟨g, 0, none⟩ : Addr).add j = ⟨g, j, none⟩ := by unfold Addr.add; split <;> simp_all
  rw [hadd, h.cellAt j (by omega)]
  exact hu
theorem drop_news {w : World} {base g n cap : Nat} {l : List Ck} (h : w.ownsRow base 35 2 (.slice (some ⟨g, 0, none⟩) n cap) n (cksV l)) (k : Nat) (hk : k < l.length) :
    ∀ j u, ((cksV l).drop ((k + 1) * 2))[j]? = some u → w.cell? ((⟨g, (k + 1) * 2, none⟩ : Addr).add j) = some u := by
  intro j u hu
  have hl := h.1
  rw [cksV_len] at hl
  have hj : j < l.length * 2 - (k + 1) * 2 := by
    have := (List.getElem?_eq_some_iff.1 hu).1
    rw [List.length_drop, cksV_len] at this
    omega
  rw [List.getElem?_drop] at hu
  have hadd : (⟨g, (k + 1) * 2, none⟩ : Addr).add j = ⟨g, (k + 1) * 2 + j, none⟩ := by unfold Addr.add; split <;> simp_all
  rw [hadd, h.cellAt _ (by omega)]
  exact hu
/-- Two appends, the first one onto nothing: all that is written is new. -/
theorem two_steps {W w8 w9 : World} {v1 v2 : Value} (g1 : W.grownBy w8 (Value.slice none 0 0).ownBlock) (a1 : v1.ownBlock = (Value.slice none 0 0).ownBlock ∨ v1.ownBlock = some W.heap.size) (g2 : w8.grownBy w9 v1.ownBlock) (a2 : v2.ownBlock = v1.ownBlock ∨ v2.ownBlock = some w8.heap.size) :
    W.grownBy w9 none ∧ ∀ j, v2.ownBlock = some j → W.heap.size ≤ j := by
  have e0 : (Value.slice none 0 0).ownBlock = none := rfl
  rw [e0] at g1 a1
  have hs := g1.size
  rcases a1 with e1 | e1
  · rw [e1] at g2 a2
    refine ⟨gr_trans g1 g2, fun j hj => ?_⟩
    rcases a2 with e2 | e2
    · rw [e2] at hj; cases hj
    · rw [e2] at hj; cases hj; exact hs
  · rw [e1] at g2 a2
    refine ⟨gr_new g1 g2 (Nat.le_refl _), fun j hj => ?_⟩
    rcases a2 with e2 | e2
    · rw [e2] at hj; cases hj; exact Nat.le_refl _
    · rw [e2] at hj; cases hj; exact hs
/-- What stands behind one of them, wherever the slice's address is said to be. -/
theorem tail_news {w : World} {base g n cap : Nat} {l : List Ck} (h : w.ownsRow base 35 2 (.slice (some ⟨g, 0, none⟩) n cap) n (cksV l)) (k : Nat) (hk : k < l.length) :
    ∃ ad : Addr, (if cap = k + 1 then some (⟨g, 0, none⟩ : Addr) else some ⟨g, (k + 1) * 2, none⟩) = some ad ∧ ∀ w' : World, w.grownBy w' none → ∀ j u, ((cksV l).drop ((k + 1) * 2))[j]? = some u → w'.cell? (ad.add j) = some u := by
  have hl := h.1
  rw [cksV_len] at hl
  have hc := own_cap h
  by_cases hce : cap = k + 1
  · refine ⟨⟨g, 0, none⟩, by rw [if_pos hce], fun w' _ j u hu => ?_⟩
    have := (List.getElem?_eq_some_iff.1 hu).1
    rw [List.length_drop, cksV_len] at this
    omega
  · refine ⟨⟨g, (k + 1) * 2, none⟩, by rw [if_neg hce], fun w' hg j u hu => ?_⟩
    have h1 := drop_news h k hk j u hu
    have h2 := block_lt_of_cell h1
    have hadd : (⟨g, (k + 1) * 2, none⟩ : Addr).add j = ⟨g, (k + 1) * 2 + j, none⟩ := by unfold Addr.add; split <;> simp_all
    rw [hadd] at h1 h2 ⊢
    rw [World.cell?_of_block (w := w) (hg.block g h2 (by simp))]
    exact h1
end Go.Proofs.Ytdjagifmcimedaa
