/- The ten cells of an item, in a row or in a block of its own; items that were told. Conditions: none. The document's own shard in memory, in parts; where a key stands among entries. Conditions: none. Rows of the document's own entries that are cut and joined; how the document's own shard turns. Conditions: none. Where a key stands in the document's own shard. Conditions: at most 900 stores. The document's own shard: Remove, drop, Use, Drops. Conditions: at most 900 stores, keys of at most 300 bytes. The document's own shard: Use, Drops, Look, New. Conditions: at most 900 stores, keys of at most 300 bytes. The document's own shard: New. Conditions: none. -/
import Derived.Test.YtckjjfkfapfdaaaGreatG37Joined
import Derived.Test.YtckjjfkfapfdaaaGreatG40Joined
import Derived.Test.YtckjjfkfapfdaaaGreatG41Joined
import Derived.Test.YtckjjfkfapfdaaaGreatG38Joined
import Derived.Test.YtckjjfkfapfdaaaGreatG27Joined
import Derived.Test.YtckjjfkfapfdaaaGreatG00Joined
import Derived.Lib.AppendZeros
import Derived.Deep.QuietTactic
import Derived.BigQuiet
import Derived.Deep.RegionHeldLaw
import Derived.Test.YtckjjfkfapfdaaaGreatG32Joined
namespace Go.Proofs.YtckjjfkfapfdaaaGreat
open Go.RowKit Go.Shelf

abbrev HasM (b o : Nat) (v : Iv) (a : Option Addr) (c : Nat) (w : World) : Prop := w.cell? ⟨b, o, none⟩ = some (.string v.key) ∧ w.cell? ⟨b, o + 1, none⟩ = some (.slice a v.val.length c) ∧ w.cell? ⟨b, o + 2, none⟩ = some (.int .u32 v.fl) ∧ w.cell? ⟨b, o + 3, none⟩ = some (.int .i64 v.exp) ∧ w.cell? ⟨b, o + 4, none⟩ = some (.int .u64 v.cas) ∧ w.cell? ⟨b, o + 5, none⟩ = some (.int .i64 v.sec) ∧ w.cell? ⟨b, o + 6, none⟩ = some (.int .u64 v.seq) ∧ w.cell? ⟨b, o + 7, none⟩ = some (.bool v.st) ∧ w.cell? ⟨b, o + 8, none⟩ = some (.bool v.won) ∧ w.cell? ⟨b, o + 9, none⟩ = some (.bool v.seen)
abbrev HasB (b : Nat) (v : Iv) (a : Option Addr) (c : Nat) (w : World) : Prop := w.cell? ⟨b, 0, none⟩ = some (.string v.key) ∧ w.cell? ⟨b, 1, none⟩ = some (.slice a v.val.length c) ∧ w.cell? ⟨b, 2, none⟩ = some (.int .u32 v.fl) ∧ w.cell? ⟨b, 3, none⟩ = some (.int .i64 v.exp) ∧ w.cell? ⟨b, 4, none⟩ = some (.int .u64 v.cas) ∧ w.cell? ⟨b, 5, none⟩ = some (.int .i64 v.sec) ∧ w.cell? ⟨b, 6, none⟩ = some (.int .u64 v.seq) ∧ w.cell? ⟨b, 7, none⟩ = some (.bool v.st) ∧ w.cell? ⟨b, 8, none⟩ = some (.bool v.won) ∧ w.cell? ⟨b, 9, none⟩ = some (.bool v.seen)
theorem hasM_of {w : World} {b o : Nat} {v : Iv} {a : Option Addr} {c : Nat} (h : ∀ (j : Nat) (u : Value), (itC (itOf v a c)).toList[j]? = some u → w.cell? ⟨b, o + j, none⟩ = some u) : HasM b o v a c w :=
  ⟨h 0 _ rfl, h 1 _ rfl, h 2 _ rfl, h 3 _ rfl, h 4 _ rfl, h 5 _ rfl, h 6 _ rfl, h 7 _ rfl, h 8 _ rfl, h 9 _ rfl⟩
theorem hasB_of {w : World} {b : Nat} {v : Iv} {a : Option Addr} {c : Nat} {t : TypeId} (h : w.heap[b]? = some (.cells (itC (itOf v a c)) t (0, 0))) : HasB b v a c w := it_cells h
theorem cell_grown {w w' : World} {b o : Nat} {v : Value} (h : w.cell? ⟨b, o, none⟩ = some v) (hg : w.grownBy w' none) : w'.cell? ⟨b, o, none⟩ = some v :=
  ((below_gr hg).cell (p := ⟨b, o, none⟩) (World.block_lt_of_cell? w _ h)).trans h
theorem HasM.on {w w' : World} {b o : Nat} {v : Iv} {a : Option Addr} {c : Nat} (h : HasM b o v a c w) (hg : w.grownBy w' none) : HasM b o v a c w' := by
  obtain ⟨h0, h1, h2, h3, h4, h5, h6, h7, h8, h9⟩ := h
  exact ⟨cell_grown h0 hg, cell_grown h1 hg, cell_grown h2 hg, cell_grown h3 hg, cell_grown h4 hg, cell_grown h5 hg, cell_grown h6 hg, cell_grown h7 hg, cell_grown h8 hg, cell_grown h9 hg⟩
theorem HasB.on {w w' : World} {b : Nat} {v : Iv} {a : Option Addr} {c : Nat} (h : HasB b v a c w) (hg : w.grownBy w' none) : HasB b v a c w' := by
  obtain ⟨h0, h1, h2, h3, h4, h5, h6, h7, h8, h9⟩ := h
  exact ⟨cell_grown h0 hg, cell_grown h1 hg, cell_grown h2 hg, cell_grown h3 hg, cell_grown h4 hg, cell_grown h5 hg, cell_grown h6 hg, cell_grown h7 hg, cell_grown h8 hg, cell_grown h9 hg⟩
/-- One of the items that were told. -/
theorem items_at {w : World} {v : Value} {xs : List Told} {j n : Nat} {x : Told} (h : (itemsP v xs).q w) (hn : xs.length = n) (hx : xs[j]? = some x) : ∃ g cap, v = .slice (some ⟨g, 0, none⟩) n cap ∧ w.rangeAt g (j * 10) (itC x.it).toList ∧ HasM g (j * 10) x.iv x.a x.c w ∧ Bs w x.a x.iv.val.length x.c (ints x.iv.val) := by
  have hj := (List.getElem?_eq_some_iff.1 hx).1
  have hr : w.ownsRow 0 34 10 v xs.length (itsV (xs.map Told.it)) := h.1
  rw [hn] at hr
  obtain ⟨g, cap, rfl⟩ := own_form hr (by omega)
  have row := it_row (x := x.it) hr (by rw [List.length_map, hn]) (by rw [List.getElem?_map, hx]; rfl)
  exact ⟨g, cap, rfl, row, hasM_of row, ValAt.bs (h.2.1 x (List.mem_of_getElem? hx))⟩
theorem setRow_newB (W : World) (old cs : Array Value) (t : TypeId) : (W.alloc (.cells old t)).setRow W.heap.size cs = W.alloc (.cells cs t) := setRow_alloc W old cs t
theorem told_at {xs : List Told} {E : List Ent} (h : xs.map Told.iv = E.map Prod.fst) {j : Nat} {e : Ent} (he : E[j]? = some e) : ∃ x, xs[j]? = some x ∧ x.iv = e.1 := by
  have h1 := congrArg (fun l => l[j]?) h
  simp only [List.getElem?_map, he, Option.map_some] at h1
  cases hx : xs[j]? with
  | none => rw [hx] at h1; cases h1
  | some x =>
    rw [hx] at h1
    exact ⟨x, rfl, Option.some.inj h1⟩
end Go.Proofs.YtckjjfkfapfdaaaGreat

namespace Go.Proofs.YtckjjfkfapfdaaaGreat
open Go.RowKit Go.Shelf
set_option maxRecDepth 100000

section
variable {w0 w : World} {l : List Part} {A A' R : Part}
/-- One of the parts is taken out, and another one put in its place. -/
theorem Law.takeOut (H : Law w0 w ((allP l).and R)) (i : Nat) (hi : l[i]? = some A) : Law w0 w (A.and ((allP (l.set i Part.emp)).and R)) := by
  have hil : i < l.length := (List.getElem?_eq_some_iff.1 hi).1
  have at_ : ∀ j B, (l.set i Part.emp)[j]? = some B → (j = i ∧ B = Part.emp) ∨ (j ≠ i ∧ l[j]? = some B) := fun j B hj => by
    by_cases e : j = i
    · subst e
      rw [List.getElem?_set_self hil] at hj
      cases hj
      exact .inl ⟨rfl, rfl⟩
    · rw [List.getElem?_set_ne (fun e' => e e'.symm)] at hj
      exact .inr ⟨e, hj⟩
  obtain ⟨⟨hq, hd⟩, hR, hLR⟩ := H.q
  refine H.weak (B := A.and ((allP (l.set i Part.emp)).and R)) (fun _ => ⟨hq i A hi, ⟨⟨fun j B hj => ?_, fun j m B C hjm hj hm k hB hC => ?_⟩, hR, ?_⟩, ?_⟩) ?_
  · rcases at_ j B hj with ⟨_, rfl⟩ | ⟨_, hj⟩
    · trivial
    · exact hq j B hj
  · rcases at_ j B hj with ⟨_, rfl⟩ | ⟨_, hj⟩
    · exact hB
    · rcases at_ m C hm with ⟨_, rfl⟩ | ⟨_, hm⟩
      · exact hC
      · exact hd j m B C hjm hj hm k hB hC
  · rintro k ⟨j, B, hj, hk⟩ hr
    rcases at_ j B hj with ⟨_, rfl⟩ | ⟨_, hj⟩
    · exact hk
    · exact hLR k ⟨j, B, hj, hk⟩ hr
  · rintro k hk (⟨j, B, hj, hB⟩ | hr)
    · rcases at_ j B hj with ⟨_, rfl⟩ | ⟨hne, hj⟩
      · exact hB
      · exact hd i j A B (fun e => hne e.symm) hi hj k hk hB
    · exact hLR k ⟨i, A, hi, hk⟩ hr
  · rintro k (hk | ⟨j, B, hj, hB⟩ | hr)
    · exact .inl ⟨i, A, hi, hk⟩
    · rcases at_ j B hj with ⟨_, rfl⟩ | ⟨_, hj⟩
      · exact hB.elim
      · exact .inl ⟨j, B, hj, hB⟩
    · exact .inr hr
theorem Law.putBack (i : Nat) (hil : i < l.length) (H : Law w0 w (A'.and ((allP (l.set i Part.emp)).and R))) : Law w0 w ((allP (l.set i A')).and R) := by
  have at_ : ∀ j B, (l.set i A')[j]? = some B → (j = i ∧ B = A') ∨ (j ≠ i ∧ (l.set i Part.emp)[j]? = some B) := fun j B hj => by
    by_cases e : j = i
    · subst e
      rw [List.getElem?_set_self hil] at hj
      cases hj
      exact .inl ⟨rfl, rfl⟩
    · rw [List.getElem?_set_ne (fun e' => e e'.symm)] at hj
      exact .inr ⟨e, by rw [List.getElem?_set_ne (fun e' => e e'.symm)]; exact hj⟩
  obtain ⟨hA, ⟨⟨hq, hd⟩, hR, hLR⟩, hx⟩ := H.q
  refine H.weak (B := (allP (l.set i A')).and R) (fun _ => ⟨⟨fun j B hj => ?_, fun j m B C hjm hj hm k hB hC => ?_⟩, hR, ?_⟩) ?_
  · rcases at_ j B hj with ⟨_, rfl⟩ | ⟨_, hj⟩
    · exact hA
    · exact hq j B hj
  · rcases at_ j B hj with ⟨rfl, rfl⟩ | ⟨_, hj2⟩
    · rcases at_ m C hm with ⟨rfl, _⟩ | ⟨_, hm2⟩
      · exact hjm rfl
      · exact hx k hB (.inl ⟨m, C, hm2, hC⟩)
    · rcases at_ m C hm with ⟨_, hCA⟩ | ⟨_, hm2⟩
      · exact hx k (hCA ▸ hC) (.inl ⟨j, B, hj2, hB⟩)
      · exact hd j m B C hjm hj2 hm2 k hB hC
  · rintro k ⟨j, B, hj, hk⟩ hr
    rcases at_ j B hj with ⟨_, rfl⟩ | ⟨_, hj⟩
    · exact hx k hk (.inr hr)
    · exact hLR k ⟨j, B, hj, hk⟩ hr
  · rintro k (⟨j, B, hj, hk⟩ | hr)
    · rcases at_ j B hj with ⟨_, rfl⟩ | ⟨_, hj⟩
      · exact .inl hk
      · exact .inr (.inl ⟨j, B, hj, hk⟩)
    · exact .inr (.inr hr)
theorem Law.at (H : Law w0 w ((allP l).and R)) (i : Nat) (hi : l[i]? = some A) : A.q w := H.q.1.1 i A hi
end
/-- An entry in the document's own row: its item as it lies there, its chunk. -/
structure Re where
  t : Told
  ck : Ck
def Re.ent (e : Re) : Ent := (e.t.iv, e.ck)
def Re.cells (e : Re) : List Value := (itC e.t.it).toList ++ [.int .i64 e.ck.1, .int .i64 e.ck.2]
def entsV (l : List Re) : List Value := l.flatMap Re.cells
theorem re_len (e : Re) : e.cells.length = 12 := rfl
theorem entsV_len : ∀ l : List Re, (entsV l).length = l.length * 12
  | [] => rfl
  | e :: l => by
    show (e.cells ++ entsV l).length = _
    rw [List.length_append, entsV_len l, re_len, List.length_cons]
    omega
theorem entsV_app (l m : List Re) : entsV (l ++ m) = entsV l ++ entsV m := by simp [entsV]
theorem entsV_one (e : Re) : entsV [e] = e.cells := by simp [entsV]
theorem entsV_take : ∀ (l : List Re) (k : Nat), (entsV l).take (k * 12) = entsV (l.take k)
  | [], k => by simp [entsV]
  | e :: l, 0 => by simp [entsV]
  | e :: l, k + 1 => by
    show (e.cells ++ entsV l).take ((k + 1) * 12) = e.cells ++ entsV (l.take k)
    rw [List.take_append, re_len, show (k + 1) * 12 - 12 = k * 12 by omega, entsV_take l k, List.take_of_length_le (by rw [re_len]; omega)]
theorem entsV_drop : ∀ (l : List Re) (k : Nat), (entsV l).drop (k * 12) = entsV (l.drop k)
  | [], k => by simp [entsV]
  | e :: l, 0 => by simp
  | e :: l, k + 1 => by
    show (e.cells ++ entsV l).drop ((k + 1) * 12) = entsV (l.drop k)
    rw [List.drop_append, re_len, show (k + 1) * 12 - 12 = k * 12 by omega, entsV_drop l k, List.drop_of_length_le (by rw [re_len]; omega), List.nil_append]
theorem entsV_get {l : List Re} {k : Nat} {e : Re} (h : l[k]? = some e) (j : Nat) (hj : j < 12) : (entsV l)[k * 12 + j]? = e.cells[j]? := by
  have h1 : (entsV l)[k * 12 + j]? = ((entsV l).drop (k * 12))[j]? := by rw [List.getElem?_drop]
  rw [h1, entsV_drop]
  obtain ⟨hk, he⟩ := List.getElem?_eq_some_iff.1 h
  rw [List.drop_eq_getElem_cons hk, he]
  show (e.cells ++ entsV (l.drop (k + 1)))[j]? = _
  rw [List.getElem?_append_left (by rw [re_len]; exact hj)]
theorem re_row {w : World} {n0 n cap g k : Nat} {l : List Re} {e : Re} (h : w.ownsRow n0 87 12 (.slice (some ⟨g, 0, none⟩) n cap) n (entsV l)) (hn : l.length = n) (hk : l[k]? = some e) : ∀ (j : Nat) (v : Value), e.cells[j]? = some v → w.cell? ⟨g, k * 12 + j, none⟩ = some v := by
  intro j v hv
  have hj : j < 12 := by have := (List.getElem?_eq_some_iff.1 hv).1; rwa [re_len] at this
  have hkl := (List.getElem?_eq_some_iff.1 hk).1
  rw [h.cellAt (k * 12 + j) (by omega), entsV_get hk j hj, hv]
/-- The document's slab and judge as parts. -/
def slabRP (n0 h : Nat) (st : Sb) (vi vg : Value) (gm : Nat) : Part := ⟨ROwn h gm vi vg, fun w => RSl n0 w h st vi vg gm, fun _ _ H hs => H.same hs⟩
def judgeRP (n0 h c kc g sd : Nat) (j : Js) (v : Value) : Part := ⟨JOwn h c kc g v, fun w => RJ n0 w h c kc g sd j v, fun _ _ H hs => H.same hs⟩
/-- Where the parts of the document's own shard lie. -/
structure Rp where
  sp : Nat
  op : Nat
  jp : Nat
  vL : Value
  vD : Value
  es : List Re
  vi : Value
  vg : Value
  gm : Nat
  vt : Value
  vs : Value
  c : Nat
  kc : Nat
  g : Nat
  v : Value
def rhead (P : Rp) : Array Value := #[P.vL, .pointer (some ⟨P.sp, 0, none⟩), .pointer (some ⟨P.op, 0, none⟩), .pointer (some ⟨P.jp, 0, none⟩), P.vD]
def refL (n0 r sd : Nat) (P : Rp) (st : Hs) : List Part :=
  [boxP r (.cells (rhead P) 48), rowP n0 87 12 P.vL P.es.length (entsV P.es), talesP (P.es.map Re.t), slabRP n0 P.sp st.slab P.vi P.vg P.gm, refP n0 P.op st.ord P.vt P.vs, judgeRP n0 P.jp P.c P.kc P.g sd st.jd P.v, rowP n0 9 1 P.vD st.drops.length (strV st.drops)]
/-- The document's own shard, beside all else. -/
structure RefAt (w0 w : World) (r sd : Nat) (P : Rp) (st : Hs) (R : Part) : Prop where
  law : Law w0 w ((allP (refL w0.heap.size r sd P st)).and R)
  ents : P.es.map Re.ent = st.ents
section
variable {w0 w w' : World} {r sd : Nat} {P : Rp} {st : Hs} {R R' : Part}
theorem RefAt.step (H : RefAt w0 w r sd P st R) (hg : w.grownBy w' none) : RefAt w0 w' r sd P st R := ⟨H.law.step hg, H.ents⟩
theorem RefAt.drewN (H : RefAt w0 w r sd P st R) (n : Nat) : RefAt w0 (w.drewN n) r sd P st R := ⟨H.law.drewN n, H.ents⟩
theorem RefAt.drew (H : RefAt w0 w r sd P st R) : RefAt w0 w.drew r sd P st R := ⟨H.law.drew, H.ents⟩
theorem RefAt.head (H : RefAt w0 w r sd P st R) : w.heap[r]? = some (.cells (rhead P) 48 (0, 0)) := H.law.at 0 rfl
theorem RefAt.row (H : RefAt w0 w r sd P st R) : w.ownsRow w0.heap.size 87 12 P.vL P.es.length (entsV P.es) := H.law.at (A := rowP w0.heap.size 87 12 P.vL P.es.length (entsV P.es)) 1 rfl
theorem RefAt.tale (H : RefAt w0 w r sd P st R) {k : Nat} {e : Re} (he : P.es[k]? = some e) : Bs w e.t.a e.t.iv.val.length e.t.c (ints e.t.iv.val) :=
  ValAt.bs (H.law.at (A := talesP (P.es.map Re.t)) 2 rfl e.t (List.mem_map.2 ⟨e, List.mem_of_getElem? he, rfl⟩))
theorem RefAt.slab (H : RefAt w0 w r sd P st R) : RSl w0.heap.size w P.sp st.slab P.vi P.vg P.gm := H.law.at (A := slabRP w0.heap.size P.sp st.slab P.vi P.vg P.gm) 3 rfl
theorem RefAt.judge (H : RefAt w0 w r sd P st R) : RJ w0.heap.size w P.jp P.c P.kc P.g sd st.jd P.v := H.law.at (A := judgeRP w0.heap.size P.jp P.c P.kc P.g sd st.jd P.v) 5 rfl
theorem RefAt.drops (H : RefAt w0 w r sd P st R) : w.ownsRow w0.heap.size 9 1 P.vD st.drops.length (strV st.drops) := H.law.at (A := rowP w0.heap.size 9 1 P.vD st.drops.length (strV st.drops)) 6 rfl
theorem RefAt.cells (H : RefAt w0 w r sd P st R) : w.cell? ⟨r, 0, none⟩ = some P.vL ∧ w.cell? ⟨r, 1, none⟩ = some (.pointer (some ⟨P.sp, 0, none⟩)) ∧ w.cell? ⟨r, 2, none⟩ = some (.pointer (some ⟨P.op, 0, none⟩)) ∧ w.cell? ⟨r, 3, none⟩ = some (.pointer (some ⟨P.jp, 0, none⟩)) ∧ w.cell? ⟨r, 4, none⟩ = some P.vD := by
  have h := H.head
  simp [World.cell?, h, rhead]
theorem RefAt.free (H : RefAt w0 w r sd P st R) (j : Nat) : w.frozen? ⟨r, j, none⟩ = false := frozen_of_row _ _ _ _ _ H.head
theorem RefAt.len (H : RefAt w0 w r sd P st R) : P.es.length = st.ents.length := by rw [← H.ents, List.length_map]
theorem RefAt.at (H : RefAt w0 w r sd P st R) {k : Nat} {e : Re} (he : P.es[k]? = some e) : st.ents[k]? = some e.ent := by rw [← H.ents, List.getElem?_map, he]; rfl
end
/-- How many entries' keys are less. -/
def posE (k : ByteArray) (l : List Ent) : Nat := (l.filter fun e => ltK e.1.key k).length
theorem rising_split {l : List Ent} (h : RisingE l) (k : ByteArray) : l = (l.filter fun e => ltK e.1.key k) ++ (l.filter fun e => !ltK e.1.key k) := by
  induction l with
  | nil => rfl
  | cons x l ih =>
    have h' := List.pairwise_cons.1 h
    by_cases hx : ltK x.1.key k = true
    · rw [List.filter_cons, List.filter_cons, if_pos hx, if_neg (by simp [hx])]
      exact congrArg (x :: ·) (ih h'.2)
    · have hall : ∀ y ∈ l, ltK y.1.key k = false := fun y hy => by
        cases hy' : ltK y.1.key k with
        | false => rfl
        | true => exact absurd (ltK_trans (h'.1 y hy) hy') hx
      have hn : l.filter (fun e => ltK e.1.key k) = [] := by
        rw [List.filter_eq_nil_iff]
        intro y hy
        rw [hall y hy]
        simp
      have hf : l.filter (fun e => !ltK e.1.key k) = l := by
        rw [List.filter_eq_self]
        intro y hy
        rw [hall y hy]
        rfl
      rw [List.filter_cons, List.filter_cons, if_neg hx, if_pos (by simp [hx]), hn, hf]
      rfl
theorem pos_take {l : List Ent} (h : RisingE l) (k : ByteArray) : l.take (posE k l) = l.filter (fun e => ltK e.1.key k) := by
  conv => lhs; arg 2; rw [rising_split h k]
  exact List.take_left' rfl
theorem pos_drop {l : List Ent} (h : RisingE l) (k : ByteArray) : l.drop (posE k l) = l.filter (fun e => !ltK e.1.key k) := by
  conv => lhs; arg 2; rw [rising_split h k]
  exact List.drop_left' rfl
theorem pos_le (k : ByteArray) (l : List Ent) : posE k l ≤ l.length := List.length_filter_le _ _
end Go.Proofs.YtckjjfkfapfdaaaGreat

namespace Go.Proofs.YtckjjfkfapfdaaaGreat
open Go.RowKit Go.Shelf
set_option maxRecDepth 100000

theorem info_re : (Tryz.prog.info? 87).map (fun i => (i.zero, i.size, i.bytes)) = some (some (.agg #[.string ⟨#[]⟩, .slice none 0 0, .int .u32 0, .int .i64 0, .int .u64 0, .int .i64 0, .int .u64 0, .bool false, .bool false, .bool false, .int .i64 0, .int .i64 0]), 12, 104) := by kernel_rfl
/-- A slice that holds these entries. -/
def HoldsE (w : World) (u : Value) (l : List Re) : Prop := ∃ a cap, u = .slice a l.length cap ∧ ((l = [] ∧ (a = none → cap = 0)) ∨ ∃ b off, a = some ⟨b, off, none⟩ ∧ w.rangeAt b off (entsV l))
theorem holdsE_own {w : World} {n0 : Nat} {v : Value} {l : List Re} (h : w.ownsRow n0 87 12 v l.length (entsV l)) : HoldsE w v l := by
  rcases h.2 with ⟨rfl, h0⟩ | ⟨g, cap, cur, rfl, hg, hh, r⟩
  · exact ⟨none, 0, by rw [h0], .inl ⟨List.length_eq_zero_iff.1 h0, fun _ => rfl⟩⟩
  · refine ⟨_, cap, rfl, .inr ⟨g, 0, rfl, fun j v hv => ?_⟩⟩
    have hj := (List.getElem?_eq_some_iff.1 hv).1
    rw [entsV_len] at hj
    rw [Nat.zero_add, h.cellAt j hj, hv]
theorem slice_frontE {w0 : World} {n0 : Nat} {v : Value} {l : List Re} (h : w0.ownsRow n0 87 12 v l.length (entsV l)) (k : Nat) (hk : k ≤ l.length) :
    ∃ u, (∀ w : World, (Instr.sliceAt 42 v none (some (.int .i64 k)) none).run Tryz.prog w = .ok u w) ∧ ∀ w : World, HoldsE w v l → HoldsE w u (l.take k) := by
  obtain ⟨a, cap, rfl⟩ := own_shape h
  obtain ⟨h1, h2⟩ := own_cap h
  have hkc : k ≤ cap := Nat.le_trans hk h1
  have hki : (k : Int) ≤ (cap : Int) := by omega
  refine ⟨.slice a k cap, fun w => ?_, fun w hw => ?_⟩
  · go_simp
  · obtain ⟨a', cap', e, hw⟩ := hw
    cases e
    refine ⟨a, cap, by rw [List.length_take, Nat.min_eq_left hk], ?_⟩
    rcases hw with ⟨rfl, hc⟩ | ⟨b, off, rfl, hr⟩
    · exact .inl ⟨by simp, hc⟩
    · refine .inr ⟨b, off, rfl, fun j v hv => ?_⟩
      rw [← entsV_take, List.getElem?_take] at hv
      split at hv
      · exact hr j v hv
      · cases hv
theorem slice_backE {w0 : World} {n0 : Nat} {v : Value} {l : List Re} (h : w0.ownsRow n0 87 12 v l.length (entsV l)) (k : Nat) (hk : k ≤ l.length) :
    ∃ u, (∀ w : World, (Instr.sliceAt 42 v (some (.int .i64 k)) none none).run Tryz.prog w = .ok u w) ∧ ∀ w : World, HoldsE w v l → HoldsE w u (l.drop k) := by
  rcases h.2 with ⟨rfl, h0⟩ | ⟨g, cap, cur, rfl, hg, hh, h1, h2, r⟩
  · have hl : l = [] := List.length_eq_zero_iff.1 h0
    subst hl
    obtain rfl : k = 0 := by simpa using hk
    refine ⟨.slice none 0 0, fun w => ?_, fun w hw => hw⟩
    go_simp
  · have hki : (k : Int) ≤ (l.length : Int) := by omega
    refine ⟨.slice (if cap = k then some ⟨g, 0, none⟩ else some ⟨g, k * 12, none⟩) (l.length - k) (cap - k), fun w => ?_, fun w hw => ?_⟩
    · by_cases e : cap = k
      · subst e
        go_simp
      · go_simp
    · obtain ⟨a0, cap0, e, hw⟩ := hw
      cases e
      refine ⟨_, cap - k, by rw [List.length_drop], ?_⟩
      by_cases hkl : k = l.length
      · refine .inl ⟨by rw [hkl]; simp, fun e => ?_⟩
        split at e <;> cases e
      · rcases hw with ⟨rfl, hc⟩ | ⟨b, off, e, hr⟩
        · exact .inl ⟨by simp, fun e => by split at e <;> cases e⟩
        · cases e
          refine .inr ⟨g, k * 12, by rw [if_neg (by omega)], fun j v hv => ?_⟩
          rw [← entsV_drop, List.getElem?_drop] at hv
          have := hr _ v hv
          rw [Nat.zero_add] at this
          exact this
theorem re_one (e : Re) : ∀ u ∈ e.cells, u.oneCell' = true := by
  intro u hu
  simp [Re.cells, itC, Told.it, itOf] at hu
  rcases hu with rfl | rfl | rfl | rfl | rfl | rfl | rfl | rfl | rfl | rfl | rfl | rfl <;> rfl
theorem entsV_one' (l : List Re) : ∀ u ∈ entsV l, u.oneCell' = true := by
  intro u hu
  unfold entsV at hu
  rw [List.mem_flatMap] at hu
  obtain ⟨e, _, hu⟩ := hu
  exact re_one e u hu
theorem run_append_ents (w : World) (base : Nat) (ty : TypeId) {v x : Value} {n : Nat} {xs : List Value} {ys : List Re} (hown : w.ownsRow base 87 12 v n xs) (hx : HoldsE w x ys) (hn : n + ys.length ≤ 20000) (hb : base ≤ w.heap.size) :
    ∃ v' w', (Builtin.append_ #[42, 42] ty #[v, x]).run Tryz.prog w = .ok v' w' ∧ w'.ownsRow base 87 12 v' (n + ys.length) (xs ++ entsV ys) ∧ w.grownBy w' v.ownBlock ∧ (v'.ownBlock = v.ownBlock ∨ v'.ownBlock = some w.heap.size) := by
  obtain ⟨i0, hi, hz0, hz1, hz2⟩ := info_parts info_re
  obtain ⟨a, cap, rfl, hw⟩ := hx
  cases a with
  | none =>
    obtain ⟨rfl, hc⟩ : ys = [] ∧ cap = 0 := by
      rcases hw with ⟨h1, h2⟩ | ⟨b, off, e, _⟩
      · exact ⟨h1, h2 rfl⟩
      · cases e
    subst hc
    refine ⟨v, w, run_append_owned_none w base 42 ty 87 i0 12 Tryz.underlying42 hi v n xs hown, ?_, gr_refl _ _, .inl rfl⟩
    simpa [entsV] using hown
  | some ad =>
    have hnews : ∀ (j : Nat) (u : Value), (entsV ys)[j]? = some u → w.cell? (ad.add j) = some u := by
      intro j u hu
      rcases hw with ⟨rfl, _⟩ | ⟨b, off, e, hr⟩
      · simp [entsV] at hu
      · cases e
        rw [add_at]
        exact hr j u hu
    obtain ⟨v', w', q1, q2, q3, _, q5⟩ := run_append_own_at (P := Tryz.prog) w base 42 ty 87 i0 _ 12 104 Tryz.underlying42 hi hz0 hz1 hz2 rfl (by decide) v n xs hown ad ys.length cap (entsV ys) (entsV_len ys) hnews (entsV_one' ys) (by unfold maxLen; omega) (by omega) hb
    exact ⟨v', w', q1, q2, q3, q5⟩
theorem wpList_append_ents {w : World} {ops : Array Oper} {rest : List Oper} {o : Oper} {a : Act} {Q : Exit → Act → World → Prop} (hgd : o.guard = none) (s x : Operand) (ho : o.op = .call { callee := .builtin .append, args := #[s, x], argTypes := #[42, 42] })
    (base : Nat) (v : Value) (n : Nat) (xs : List Value) (hs : a.eval s = v) (hown : w.ownsRow base 87 12 v n xs) (u : Value) (ys : List Re) (hx : a.eval x = u) (hr : HoldsE w u ys) (hn : n + ys.length ≤ 20000) (hb : base ≤ w.heap.size)
    (h : ∀ v' w', w'.ownsRow base 87 12 v' (n + ys.length) (xs ++ entsV ys) → w.grownBy w' v.ownBlock → (v'.ownBlock = v.ownBlock ∨ v'.ownBlock = some w.heap.size) → wpList Tryz.prog ops Q rest (a.put o.dst v') w') :
    wpList Tryz.prog ops Q (o :: rest) a w := by
  refine wpList_plain hgd fun K hK => ?_
  obtain ⟨v', w', hr, h2, h3, h5⟩ := run_append_ents w base o.type hown hr hn hb
  unfold Oper.wp execOp
  simp only [ho, resolve, invoke, builtin, Sem.run_bind, Sem.run_pure, Result.andThen_ok, List.map_toArray, List.map_cons, List.map_nil, hs, hx, hr]
  exact hK _ _ (h v' w' h2 h3 h5)
section
variable {w0 w w' : World} {r sd : Nat} {P : Rp} {st : Hs} {R A : Part}
theorem RefAt.slabTurn (H : RefAt w0 w r sd P st R) {sl : Sb} {vi vg : Value} (h : RSl w0.heap.size w' P.sp sl vi vg P.gm) (hg : Gr (ROwn P.sp P.gm P.vi P.vg) w w') (hgr : ∀ k, ROwn P.sp P.gm vi vg k → ROwn P.sp P.gm P.vi P.vg k ∨ w.heap.size ≤ k) :
    RefAt w0 w' r sd { P with vi := vi, vg := vg } { st with slab := sl } R :=
  ⟨Law.putBack (l := refL w0.heap.size r sd P st) 3 (by show 3 < 7; decide) ((H.law.takeOut (A := slabRP w0.heap.size P.sp st.slab P.vi P.vg P.gm) 3 rfl).turn (A' := slabRP w0.heap.size P.sp sl vi vg P.gm) h (fun k hk => h.lt k hk) hg hgr), H.ents⟩
theorem RefAt.judgeTurn (H : RefAt w0 w r sd P st R) {jd : Js} {v : Value} (h : RJ w0.heap.size w' P.jp P.c P.kc P.g sd jd v) (hg : Gr (JOwn P.jp P.c P.kc P.g P.v) w w') (hgr : ∀ k, v.ownBlock = some k → P.v.ownBlock = some k ∨ w.heap.size ≤ k) :
    RefAt w0 w' r sd { P with v := v } { st with jd := jd } R :=
  ⟨Law.putBack (l := refL w0.heap.size r sd P st) 5 (by show 5 < 7; decide) ((H.law.takeOut (A := judgeRP w0.heap.size P.jp P.c P.kc P.g sd st.jd P.v) 5 rfl).turn (A' := judgeRP w0.heap.size P.jp P.c P.kc P.g sd jd v) h (fun k hk => h.lt k hk) hg (fun k hk => by
    rcases hk with hk | hk | hk | hk | hk
    · exact .inl (.inl hk)
    · exact .inl (.inr (.inl hk))
    · exact .inl (.inr (.inr (.inl hk)))
    · exact .inl (.inr (.inr (.inr (.inl hk))))
    · exact (hgr k hk).imp (fun h => .inr (.inr (.inr (.inr h)))) id)), H.ents⟩
/-- The rest beside the list. -/
abbrev refRest (n0 r sd : Nat) (P : Rp) (st : Hs) (R : Part) : Part := (allP ((refL n0 r sd P st).set 4 Part.emp)).and R
theorem RefAt.listOut (H : RefAt w0 w r sd P st R) : Law w0 w ((refP w0.heap.size P.op st.ord P.vt P.vs).and (refRest w0.heap.size r sd P st R)) := H.law.takeOut 4 rfl
theorem RefAt.listBack (h : P.es.map Re.ent = st.ents) {ord : Sr} {vt vs : Value} (H : Law w0 w ((refP w0.heap.size P.op ord vt vs).and (refRest w0.heap.size r sd P st R))) : RefAt w0 w r sd { P with vt := vt, vs := vs } { st with ord := ord } R :=
  ⟨Law.putBack (l := refL w0.heap.size r sd P st) 4 (by show 4 < 7; decide) H, h⟩
theorem Law.merge {A B C : Part} (H : Law w0 w (A.and (B.and R))) (hq : A.q w → B.q w → C.q w) (ho : ∀ k, C.own k → A.own k ∨ B.own k) : Law w0 w (C.and R) :=
  H.unassoc.weak1 (fun h => hq h.1 h.2.1) fun k hk => ho k hk
/-- Other entries in a row of their own, among them perhaps one whose bytes are new. -/
theorem RefAt.rowNew {v2 : Value} {es2 : List Re} (N : Law w0 w ((rowP w0.heap.size 87 12 v2 es2.length (entsV es2)).and (A.and ((allP (refL w0.heap.size r sd P st)).and R))))
    (ht : ∀ e ∈ es2, (e ∈ P.es) ∨ ((∀ W, A.q W → (giveP e.t).q W) ∧ ∀ k, (giveP e.t).own k → A.own k)) :
    w.cell? ⟨r, 0, none⟩ = some P.vL ∧ w.frozen? ⟨r, 0, none⟩ = false ∧ RefAt w0 (w.setCell ⟨r, 0, none⟩ v2) r sd { P with vL := v2, es := es2 } { st with ents := es2.map Re.ent } R := by
  have N1 := N.rin.rot
  have hh : w.heap[r]? = some (.cells (rhead P) 48 (0, 0)) := N1.at 0 rfl
  refine ⟨by simp [World.cell?, hh, rhead], frozen_of_row _ _ _ _ _ hh, ?_, rfl⟩
  have N2 := (N1.takeOut (A := rowP w0.heap.size 87 12 P.vL P.es.length (entsV P.es)) 1 rfl).right.rot
  have N3 := Law.putBack (l := refL w0.heap.size r sd P st) 1 (by show 1 < 7; decide) N2
  have N4 := (N3.takeOut (A := boxP r (.cells (rhead P) 48)) 0 rfl).setAt 0 v2
  have N5 := Law.putBack 0 (by show 0 < 7; decide) N4
  have N6 := (N5.takeOut (A := talesP (P.es.map Re.t)) 2 rfl).rin.merge (C := talesP (es2.map Re.t)) (fun h1 h2 x hx => ?_) (fun k hk => ?_)
  · exact Law.putBack 2 (by show 2 < 7; decide) N6
  · obtain ⟨e, he, rfl⟩ := List.mem_map.1 hx
    rcases ht e he with h | h
    · exact h1 e.t (List.mem_map.2 ⟨e, h, rfl⟩)
    · exact h.1 _ h2
  · obtain ⟨x, hx, hk⟩ := hk
    obtain ⟨e, he, rfl⟩ := List.mem_map.1 hx
    rcases ht e he with h | h
    · exact .inl ⟨e.t, List.mem_map.2 ⟨e, h, rfl⟩, hk⟩
    · exact .inr (h.2 k hk)
/-- One more that was dropped. -/
theorem RefAt.dropNew {v2 : Value} {ds : List ByteArray} (N : Law w0 w ((rowP w0.heap.size 9 1 v2 ds.length (strV ds)).and ((allP ((refL w0.heap.size r sd P st).set 6 Part.emp)).and R))) :
    w.cell? ⟨r, 4, none⟩ = some P.vD ∧ w.frozen? ⟨r, 4, none⟩ = false ∧ Law w0 (w.setCell ⟨r, 4, none⟩ v2) ((allP (refL w0.heap.size r sd { P with vD := v2 } { st with drops := ds })).and R) := by
  have N1 := Law.putBack (l := refL w0.heap.size r sd P st) 6 (by show 6 < 7; decide) N
  have hh : w.heap[r]? = some (.cells (rhead P) 48 (0, 0)) := N1.at 0 rfl
  refine ⟨by simp [World.cell?, hh, rhead], frozen_of_row _ _ _ _ _ hh, ?_⟩
  exact Law.putBack 0 (by show 0 < 7; decide) ((N1.takeOut (A := boxP r (.cells (rhead P) 48)) 0 rfl).setAt 4 v2)
end
end Go.Proofs.YtckjjfkfapfdaaaGreat

namespace Go.Proofs.YtckjjfkfapfdaaaGreat
open Go.RowKit Go.Shelf

theorem bytes_ltB : ∀ l m : List UInt8, Op.bytesLess l m = ltB l m
  | _, [] => by cases ‹List UInt8› <;> rfl
  | [], _ :: _ => rfl
  | a :: l, c :: m => by
    unfold Op.bytesLess ltB
    rw [bytes_ltB l m]
    by_cases h1 : a < c
    · simp [h1]
    · by_cases h2 : c < a
      · have : a ≠ c := fun e => by subst e; exact h1 h2
        simp [h1, h2, this]
      · have : a = c := UInt8.le_antisymm (UInt8.not_lt.1 h2) (UInt8.not_lt.1 h1)
        subst this
        simp [h1]
theorem ltK_bytes (a c : ByteArray) : Op.bytesLess a.toList c.toList = ltK a c := by
  rw [ByteArray.toList_eq, ByteArray.toList_eq]
  exact bytes_ltB _ _
theorem pos_less {l : List Ent} (h : RisingE l) {k : ByteArray} {j : Nat} (hj : j < posE k l) : ∃ e, l[j]? = some e ∧ ltK e.1.key k = true := by
  have h1 := pos_take h k
  have hjl : j < l.length := Nat.lt_of_lt_of_le hj (pos_le k l)
  have h2 : l[j] ∈ l.take (posE k l) := by
    rw [List.mem_iff_getElem?]
    exact ⟨j, by rw [List.getElem?_take, if_pos hj]; exact List.getElem?_eq_getElem hjl⟩
  rw [h1, List.mem_filter] at h2
  exact ⟨l[j], List.getElem?_eq_getElem hjl, h2.2⟩
theorem pos_here {l : List Ent} (h : RisingE l) {k : ByteArray} {e : Ent} (he : l[posE k l]? = some e) : ltK e.1.key k = false := by
  have h1 : e ∈ l.drop (posE k l) := by
    rw [List.mem_iff_getElem?]
    exact ⟨0, by rw [List.getElem?_drop, Nat.add_zero]; exact he⟩
  rw [pos_drop h, List.mem_filter] at h1
  simpa using h1.2
theorem pos_find {l : List Ent} (h : RisingE l) {k : ByteArray} {y : Ent} (hf : findE k l = some y) : l[posE k l]? = some y := by
  obtain ⟨hm, hk⟩ := findE_some hf
  have h1 : y ∈ l.drop (posE k l) := by
    rw [pos_drop h, List.mem_filter]
    exact ⟨hm, by rw [hk, ltK_irrefl]; rfl⟩
  cases hd : l.drop (posE k l) with
  | nil => rw [hd] at h1; cases h1
  | cons z t =>
    have h0 : l[posE k l]? = some z := by
      have := List.getElem?_drop (xs := l) (i := posE k l) (j := 0)
      rw [hd, Nat.add_zero] at this
      exact this.symm
    rw [hd] at h1
    rcases List.mem_cons.1 h1 with rfl | h1
    · exact h0
    · have hr : RisingE (z :: t) := by rw [← hd]; exact h.sublist (List.drop_sublist _ _)
      have h2 := (List.pairwise_cons.1 hr).1 y h1
      rw [hk] at h2
      have h3 := pos_here h h0
      rw [h2] at h3
      cases h3
section
variable {w0 w : World} {r sd n : Nat} {P : Rp} {st : Hs} {R : Part}
/-- The row of entries as a slice. -/
theorem RefAt.slice (H : RefAt w0 w r sd P st R) {N : Nat} (hN : P.es.length = N) : ∃ pa cap, P.vL = .slice pa N cap ∧ N ≤ cap ∧ cap ≤ maxLen := by
  have h := H.row
  rw [hN] at h
  obtain ⟨a, cap, e⟩ := own_shape h
  rw [e] at h
  exact ⟨a, cap, e, own_cap h⟩
/-- The cells of one of them. -/
theorem RefAt.reAt (H : RefAt w0 w r sd P st R) {N cap : Nat} {pa : Option Addr} (hN : P.es.length = N) (hv : P.vL = .slice pa N cap) {k : Nat} {e : Re} (he : P.es[k]? = some e) : ∃ g, pa = some ⟨g, 0, none⟩ ∧ ∀ (j : Nat) (v : Value), e.cells[j]? = some v → w.cell? ⟨g, k * 12 + j, none⟩ = some v := by
  have h := H.row
  have hk := (List.getElem?_eq_some_iff.1 he).1
  rw [hN, hv] at h
  obtain ⟨g, cap', e'⟩ := own_form h (by omega)
  cases e'
  exact ⟨g, rfl, re_row h hN he⟩
theorem RefAt.get (H : RefAt w0 w r sd P st R) {k : Nat} {y : Ent} (hy : st.ents[k]? = some y) : ∃ e, P.es[k]? = some e ∧ e.ent = y := by
  rw [← H.ents, List.getElem?_map] at hy
  cases he : P.es[k]? with
  | none => rw [he] at hy; cases hy
  | some e => rw [he] at hy; exact ⟨e, rfl, Option.some.inj hy⟩
set_option maxRecDepth 100000 in
set_option maxHeartbeats 2000000 in
theorem rat_any (H : RefAt w0 w r sd P st R) (hg : GoodH n st) (hn : n ≤ 900) (key : ByteArray) (q : Bool) (hq : hasH st key = q) (m : Nat) (hm : posE key st.ents = m) :
    Calls Tryz.prog 64 #[.pointer (some ⟨r, 0, none⟩), .string key] w fun e w' => e = .returned (.tuple #[.int .i64 (m : Nat), .bool q]) ∧ w.grownBy w' none := by
  obtain ⟨N, hN⟩ : ∃ N, P.es.length = N := ⟨_, rfl⟩
  have hNl : st.ents.length = N := by rw [← H.len]; exact hN
  have hN9 : N ≤ 900 := by have := hg.len.1; omega
  obtain ⟨pa, cap, hv, hc1, hc2⟩ := H.slice hN
  have c0 := H.cells.1
  rw [hv] at c0
  have hmN : m ≤ N := by rw [← hm, ← hNl]; exact pos_le _ _
  go_enter Tryz.func64, Tryz.ntmps64
  go_wp2
  go_loopw [6] (fun i wr => ∃ k : Nat, k ≤ m ∧ i = .int .i64 k ∧ wr = w) (fun i _ => N - (intOf i).toNat)
  case atStart => exact ⟨0, Nat.zero_le _, rfl, rfl⟩
  case round =>
    obtain ⟨k, hk, rfl, rfl⟩ := hrel
    by_cases hlt : k < m
    · obtain ⟨y, hy, hly⟩ := pos_less hg.rise (k := key) (j := k) (by omega)
      obtain ⟨e, he, hey⟩ := H.get hy
      obtain ⟨g, rfl, hcs⟩ := H.reAt hN hv he
      have c1 : wr.cell? ⟨g, k * 12, none⟩ = some (.string e.t.iv.key) := hcs 0 _ rfl
      have hb : Op.bytesLess e.t.iv.key.toList key.toList = true := (ltK_bytes _ _).trans (by rw [← hey] at hly; exact hly)
      have hki : (k : Int) < (N : Int) := by omega
      clear hy hly he hey hcs hv H
      go_wp2
      go_roundw
      case rel => exact ⟨k + 1, hlt, by go_num, by first | trivial | rfl⟩
      case measure => simp [intOf]; omega
    · obtain rfl : k = m := by omega
      by_cases hkN : k < N
      · have hki : (k : Int) < (N : Int) := by omega
        have hd : decide ((k : Int) < (N : Int)) = true := decide_eq_true hki
        obtain ⟨y, hy⟩ : ∃ y, st.ents[k]? = some y := ⟨_, List.getElem?_eq_getElem (by omega)⟩
        obtain ⟨e, he, hey⟩ := H.get hy
        obtain ⟨g, rfl, hcs⟩ := H.reAt hN hv he
        have c1 : wr.cell? ⟨g, k * 12, none⟩ = some (.string e.t.iv.key) := hcs 0 _ rfl
        have hly := pos_here hg.rise (k := key) (by rw [hm]; exact hy)
        have hb : Op.bytesLess e.t.iv.key.toList key.toList = false := (ltK_bytes _ _).trans (by rw [← hey] at hly; exact hly)
        by_cases hkey : e.t.iv.key = key
        · have hq1 : q = true := by
            rw [← hq]
            unfold hasH
            have : findE y.1.key st.ents = some y := findE_mem hg.rise (List.mem_of_getElem? hy)
            rw [← hey] at this
            have h2 : e.ent.1.key = key := hkey
            rw [h2] at this
            rw [this]
            rfl
          subst hq1
          have hself : (e.t.iv.key.toList == key.toList) = true := by rw [hkey]; simp
          clear hy hly he hey hcs hv H hq hkey hm
          go_wp2
          go_quiet (fail)
          go_wp2
          go_ret2
          exact ⟨rfl, rfl, rfl, rfl, Nat.le_refl _, fun _ _ _ => rfl⟩
        · have hq0 : q = false := by
            rw [← hq]
            unfold hasH
            cases hf : findE key st.ents with
            | none => rfl
            | some z =>
              have h1 := pos_find hg.rise hf
              rw [hm, hy] at h1
              cases h1
              exact absurd (by rw [← hey] at hf; exact (findE_some hf).2) hkey
          subst hq0
          have hne := str_ne hkey
          clear hy hly he hey hcs hv H hq hkey hm
          go_wp2
          go_quiet (fail)
          go_wp2
          go_ret2
          exact ⟨rfl, rfl, rfl, rfl, Nat.le_refl _, fun _ _ _ => rfl⟩
      · have hki : ¬ ((k : Int) < (N : Int)) := by omega
        have hd : decide ((k : Int) < (N : Int)) = false := decide_eq_false hki
        have hq0 : q = false := by
          rw [← hq]
          unfold hasH
          cases hf : findE key st.ents with
          | none => rfl
          | some z =>
            have h1 := pos_find hg.rise hf
            rw [hm, List.getElem?_eq_none (by omega)] at h1
            cases h1
        subst hq0
        clear hv H hq hm
        go_wp2
        go_quiet (fail)
        go_wp2
        go_ret2
        exact ⟨rfl, rfl, rfl, rfl, Nat.le_refl _, fun _ _ _ => rfl⟩
end
end Go.Proofs.YtckjjfkfapfdaaaGreat

namespace Go.Proofs.YtckjjfkfapfdaaaGreat
open Go.RowKit Go.Shelf

theorem del_split {l : List Ent} (h : RisingE l) {k : ByteArray} {y : Ent} (hf : findE k l = some y) : delE k l = l.take (posE k l) ++ l.drop (posE k l + 1) := by
  have hp := pos_find h hf
  obtain ⟨hm, hk⟩ := findE_some hf
  have hlt : posE k l < l.length := (List.getElem?_eq_some_iff.1 hp).1
  have hl : l = l.take (posE k l) ++ y :: l.drop (posE k l + 1) := by
    have h1 := (List.take_append_drop (posE k l) l).symm
    rw [List.drop_eq_getElem_cons hlt, (List.getElem?_eq_some_iff.1 hp).2] at h1
    exact h1
  have hr := h
  unfold RisingE at hr
  rw [hl, List.pairwise_append] at hr
  obtain ⟨r1, r2, r3⟩ := hr
  have r4 := List.pairwise_cons.1 r2
  refine risingE_ext (risingE_del h) (List.pairwise_append.2 ⟨r1, r4.2, fun a ha b hb => r3 a ha b (List.mem_cons_of_mem _ hb)⟩) fun e => ?_
  rw [mem_delE, List.mem_append]
  constructor
  · rintro ⟨he, hne⟩
    rw [hl, List.mem_append, List.mem_cons] at he
    rcases he with he | rfl | he
    · exact .inl he
    · exact absurd hk hne
    · exact .inr he
  · rintro (he | he)
    · exact ⟨List.mem_of_mem_take he, fun e2 => ltK_ne (r3 e he y List.mem_cons_self) (e2.trans hk.symm)⟩
    · exact ⟨List.mem_of_mem_drop he, fun e2 => ltK_ne (r4.1 e he) (hk.trans e2.symm)⟩
section
variable {w0 w : World} {r sd n : Nat} {P : Rp} {st : Hs} {R : Part}
theorem Law.addEmp {A : Part} (H : Law w0 w A) : Law w0 w (Part.emp.and A) := ⟨H.below, ⟨trivial, H.q, fun _ h => h.elim⟩, fun k hk => hk.elim (fun h => h.elim) (H.lt k)⟩
theorem GoodH.slabSmall {n : Nat} {st : Hs} (g : GoodH n st) (hn : n ≤ 900) : Small st.slab 9000 := by
  have h := g.small
  exact ⟨by have := h.inn; omega, by have := h.gone; omega, fun m hm => by have := h.made m hm; omega⟩
theorem remList_is (H : RefAt w0 w r sd P st R) (hn : (allR st.ord).length ≤ 1000) (s : ByteArray) (hm : s ∈ allR st.ord) :
    Calls Tryz.prog 72 #[.pointer (some ⟨P.op, 0, none⟩), .string s] w fun en w' => en = .returned (.int .i64 0) ∧ ∃ vt vs, RefAt w0 w' r sd { P with vt := vt, vs := vs } { st with ord := remR st.ord s } R := by
  refine (rrem_is H.listOut hn s hm).mono ?_
  rintro e w' ⟨h1, vt, vs, N⟩
  refine ⟨h1, vt, vs, RefAt.listBack (P := P) (st := st) H.ents ?_⟩
  have N1 := (N.rin.rot.weak1 (A' := readP vs (without st.ord.safe s)) (fun h => holds_own h) fun k hk => hk).rot.rin
  exact N1.shut (st := remR st.ord s)
/-- What Remove reads of the shard. -/
abbrev S4 (r sp g m N cap : Nat) (c : Ck) (w : World) : Prop := w.cell? ⟨r, 1, none⟩ = some (.pointer (some ⟨sp, 0, none⟩)) ∧ w.cell? ⟨r, 0, none⟩ = some (.slice (some ⟨g, 0, none⟩) N cap) ∧ w.cell? ⟨g, m * 12 + 10, none⟩ = some (.int .i64 c.1) ∧ w.cell? ⟨g, m * 12 + 10 + 1, none⟩ = some (.int .i64 c.2)
theorem RefAt.s4 (H : RefAt w0 w r sd P st R) {N cap g m : Nat} (hN : P.es.length = N) (hv : P.vL = .slice (some ⟨g, 0, none⟩) N cap) {e : Re} (he : P.es[m]? = some e) {c : Ck} (hc : e.ck = c) : S4 r P.sp g m N cap c w := by
  obtain ⟨g', e', hcs⟩ := H.reAt hN hv he
  cases e'
  subst hc
  exact ⟨H.cells.2.1, by rw [← hv]; exact H.cells.1, hcs 10 _ rfl, hcs 11 _ rfl⟩
set_option maxRecDepth 100000 in
set_option maxHeartbeats 4000000 in
theorem rremove_any (H : RefAt w0 w r sd P st R) (hg : GoodH n st) (hn : n ≤ 900) (key : ByteArray) (q : Bool) (hq : hasH st key = q) (t : Hs) (ht : removeH st key = t) :
    Calls Tryz.prog 41 #[.pointer (some ⟨r, 0, none⟩), .string key] w fun e w' => e = .returned (.bool q) ∧ ∃ P', RefAt w0 w' r sd P' t R := by
  obtain ⟨m, hm⟩ : ∃ m, posE key st.ents = m := ⟨_, rfl⟩
  cases hf : findE key st.ents with
  | none =>
    obtain rfl : t = st := by rw [← ht]; unfold removeH; rw [hf]
    obtain rfl : q = false := by rw [← hq]; unfold hasH; rw [hf]; rfl
    clear ht hf
    go_enter Tryz.func41, Tryz.ntmps41
    go_wp2_with (go_at_call 64; refine (rat_any H hg hn key _ hq m hm).mono ?_; rintro e w1 ⟨rfl, hgr⟩; have H1 := H.step hgr; clear H hgr)
    go_ret
    exact ⟨rfl, _, H1⟩
  | some y =>
    obtain rfl : q = true := by rw [← hq]; unfold hasH; rw [hf]; rfl
    have hp := pos_find hg.rise hf
    rw [hm] at hp
    have hdel := del_split hg.rise hf
    rw [hm] at hdel
    obtain ⟨e, he, hey⟩ := H.get hp
    obtain ⟨N, hN⟩ : ∃ N, P.es.length = N := ⟨_, rfl⟩
    have hN9 : N ≤ 900 := by have := hg.len.1; have := H.len; omega
    have hmN : m < N := by rw [← hN]; exact (List.getElem?_eq_some_iff.1 he).1
    have hkm : key ∈ allR st.ord := by
      rw [hg.keys.mem_iff]
      obtain ⟨h1, h2⟩ := findE_some hf
      exact List.mem_map.2 ⟨y, h1, h2⟩
    have hl1 : (allR st.ord).length ≤ 1000 := by rw [hg.len.2.2.1, ← H.len, hN]; omega
    obtain ⟨pa, cap, hv, hc1, hc2⟩ := H.slice hN
    unfold maxLen at hc2
    obtain ⟨g, rfl, hcs⟩ := H.reAt hN hv he
    have hback := H.ents
    obtain ⟨u1, f1, f2⟩ := slice_frontE H.row m (by omega)
    obtain ⟨u2, b1, b2⟩ := slice_backE H.row (m + 1) (by omega)
    have hout : t = { st with ents := (P.es.take m ++ P.es.drop (m + 1)).map Re.ent, slab := freeS st.slab y.2, ord := remR st.ord key } := by
      rw [← ht]
      unfold removeH
      rw [hf]
      show outH st key y = _
      unfold outH
      rw [hdel, List.map_append, List.map_take, List.map_drop, hback]
    have HO := hide hout
    have F2 := hide f2
    have B2 := hide b2
    have HCS := hide hcs
    have HE := hide he
    have HK := hide hkm
    have HL := hide hl1
    have hmi : (m : Int) < (N : Int) := by omega
    have hw : IntKind.i64.wrap ((m : Int) + 1) = (m : Int) + 1 := by rw [IntKind.wrap_i64]; omega
    rw [hv] at f1 b1
    have hb1 : ∀ w : World, (Instr.sliceAt 42 (.slice (some ⟨g, 0, none⟩) N cap) (some (.int .i64 ((m : Int) + 1))) none none).run Tryz.prog w = .ok u2 w := fun w => by
      have := b1 w
      rw [show ((m + 1 : Nat) : Int) = (m : Int) + 1 by omega] at this
      exact this
    have hck : e.ck = y.2 := by rw [← hey]; rfl
    have HV := hide hv
    have HN := hide hN
    have HCK := hide hck
    have HA : Hid (hasH st key = true) := hq
    clear hout f2 b2 hcs he hkm hl1 hdel hp hf ht hback b1 hv hN hck hq hey
    go_enter Tryz.func41, Tryz.ntmps41
    go_upto_region 4 with (go_at_call 64; refine (rat_any H hg hn key _ HA.out m hm).mono ?_; rintro e w1 ⟨rfl, hgr⟩; have H1 := (H.step hgr).drew; clear H hgr; have c1 := hide (H1.s4 HN.out HV.out HE.out HCK.out))
    go_region_held (S4 r P.sp g m N cap y.2) (first | exact c2 | exact c1.out) ((go_at_call 65; refine (rfree_any H1.slab hg.slabG (hg.slabSmall hn) H1.law.below.size y.2.1 y.2.2).mono ?_; rintro e w7 ⟨rfl, vi, vg, h1, h2, h3⟩; have H2 := H1.slabTurn h1 h2 h3; have c2 := H2.s4 HN.out HV.out HE.out HCK.out; clear h1 h2 h3))
    have k2 : w7.cell? ⟨r, 2, none⟩ = some (.pointer (some ⟨P.op, 0, none⟩)) := H2.cells.2.2.1
    clear c2 c1 H1
    go_wp2_with (first
      | (go_at_call 72; refine (remList_is H2 HL.out key HK.out).mono ?_; rintro e w8 ⟨rfl, vt, vs, H3⟩; clear H2 k2; have k0 : w8.cell? ⟨r, 0, none⟩ = some (.slice (some ⟨g, 0, none⟩) N cap) := (by rw [← HV.out]; exact H3.cells.1); have P1 := F2.out w8 (holdsE_own H3.row); have hb8 := H3.law.below.size)
      | (at_builtin; refine wpList_append_ents rfl _ _ rfl w0.heap.size (.slice none 0 0) 0 [] rfl (World.ownsRow_nil _ _ _ _) u1 (P.es.take m) rfl P1 (by rw [List.length_take]; omega) hb8 ?_; intro v1 w9 hown1 hgrow1 hat1; rw [Nat.zero_add, List.nil_append] at hown1; have N1 := (H3.law.addEmp.nil (n0 := w0.heap.size) (e := 87) (size := 12)).app0 hown1 hgrow1 hat1; clear hgrow1 hat1 k0 P1 hb8; have H4 : RefAt w0 w9 r sd _ _ R := ⟨N1.right.right, H3.ents⟩; clear H3; have k0 : w9.cell? ⟨r, 0, none⟩ = some (.slice (some ⟨g, 0, none⟩) N cap) := (by rw [← HV.out]; exact H4.cells.1); have P2 := B2.out w9 (holdsE_own H4.row); have hb9 := H4.law.below.size)
      | (at_builtin; refine wpList_append_ents rfl _ _ rfl w0.heap.size v1 (P.es.take m).length (entsV (P.es.take m)) rfl hown1 u2 (P.es.drop (m + 1)) rfl P2 (by rw [List.length_take, List.length_drop, HN.out]; omega) hb9 ?_; intro v2 w10 hown2 hgrow2 hat2; have N2 := N1.app0 hown2 hgrow2 hat2; clear hgrow2 hat2 k0 P2 hb9 N1; rw [← List.length_append, ← entsV_app] at N2 hown2; obtain ⟨q1, q2, H5⟩ := RefAt.rowNew N2 (fun x hx => .inl ((List.mem_append.1 hx).elim List.mem_of_mem_take List.mem_of_mem_drop)); clear N2 H4; obtain ⟨M, hM⟩ : ∃ M, (P.es.take m ++ P.es.drop (m + 1)).length = M := ⟨_, rfl⟩; rw [hM] at hown2; clear hM; obtain ⟨a2, cap2, rfl⟩ := own_shape hown2))
    go_ret
    exact ⟨rfl, _, by rw [HO.out]; exact H5⟩
set_option maxRecDepth 100000 in
set_option maxHeartbeats 4000000 in
theorem rdrop_any (H : RefAt w0 w r sd P st R) (hg : GoodH n st) (hn : n ≤ 900) (key : ByteArray) (t : Hs) (ht : dropH st key = t) :
    Calls Tryz.prog 69 #[.pointer (some ⟨r, 0, none⟩), .string key] w fun e w' => (∃ v, e = .returned v) ∧ ∃ P', RefAt w0 w' r sd P' t R := by
  obtain ⟨i0, hi, hz0, hz1, hz2⟩ := info_parts info_str
  obtain ⟨t1, ht1⟩ : ∃ t1, removeH st key = t1 := ⟨_, rfl⟩
  have hd1 : t1.drops = st.drops := by
    rw [← ht1]
    unfold removeH
    split <;> rfl
  obtain ⟨D, hD⟩ : ∃ D, st.drops.length = D := ⟨_, rfl⟩
  have hD9 : D ≤ 900 := by have := hg.len.2.1; omega
  have hT : t = { t1 with drops := t1.drops ++ [key] } := by rw [← ht, ← ht1]; rfl
  have HT := hide hT
  have HD1 := hide hd1
  have HD := hide hD
  clear hT hd1 hD ht
  go_enter Tryz.func69, Tryz.ntmps69
  go_wp2_with (first
    | (go_at_call 41; refine (rremove_any H hg hn key _ rfl _ ht1).mono ?_; rintro e w1 ⟨rfl, P1, H1⟩; clear H; have k4 := H1.cells.2.2.2.2; have hrow : (w1.alloc (.cells #[.string key] 9)).ownsRow w0.heap.size 9 1 P1.vD t1.drops.length (strV t1.drops) := H1.drops.alloc _; have hb1 : w0.heap.size ≤ (w1.alloc (.cells #[.string key] 9)).heap.size := (by rw [World.size_alloc]; exact Nat.le_succ_of_le H1.law.below.size))
    | (at_builtin; refine wpList_append_own_at _ rfl _ _ 46 rfl w0.heap.size 9 i0 _ 1 16 Tryz.underlying46 hi hz0 hz1 hz2 rfl (by decide) _ _ _ rfl hrow ⟨w1.heap.size, 0, none⟩ 1 1 [.string key] rfl rfl (cell_one_new w1 _ _) (by simp [Value.oneCell']) (by unfold maxLen; rw [HD1.out, HD.out]; omega) (by rw [HD1.out, HD.out]; omega) hb1 ?_; intro v2 w2 hown hgrow _ hat; have N := (H1.law.takeOut (A := rowP w0.heap.size 9 1 P1.vD t1.drops.length (strV t1.drops)) 6 rfl).app hown hgrow hat; rw [← strV_app] at N; obtain ⟨q1, q2, N2⟩ := RefAt.dropNew (ds := t1.drops ++ [key]) (by rw [List.length_append]; exact N); obtain ⟨M, hM⟩ : ∃ M, t1.drops.length + 1 = M := ⟨_, rfl⟩; rw [hM] at hown; clear hM N; obtain ⟨a2, cap2, rfl⟩ := own_shape hown))
  go_end0
  exact ⟨⟨_, rfl⟩, _, by rw [HT.out]; exact ⟨N2, H1.ents⟩⟩
end
end Go.Proofs.YtckjjfkfapfdaaaGreat

namespace Go.Proofs.YtckjjfkfapfdaaaGreat
open Go.RowKit Go.Shelf

section
variable {w0 w : World} {r sd n k : Nat} {P : Rp} {st : Hs} {R A B : Part}
theorem RefAt.box (H : RefAt w0 w r sd P st R) (o : Obj) : RefAt w0 (w.alloc o) r sd P st ((boxP w.heap.size o).and R) := ⟨(H.law.box o).rot, H.ents⟩
theorem RefAt.alloc (H : RefAt w0 w r sd P st R) (o : Obj) : RefAt w0 (w.alloc o) r sd P st R := ⟨H.law.alloc o, H.ents⟩
theorem RefAt.less (H : RefAt w0 w r sd P st (A.and R)) : RefAt w0 w r sd P st R := ⟨H.law.drop2, H.ents⟩
theorem RefAt.swap (H : RefAt w0 w r sd P st (A.and (B.and R))) : RefAt w0 w r sd P st (B.and (A.and R)) := ⟨H.law.rin, H.ents⟩
theorem RefAt.setRow {old : Array Value} {t : TypeId} (H : RefAt w0 w r sd P st ((boxP k (.cells old t)).and R)) (cs : Array Value) : RefAt w0 (w.setRow k cs) r sd P st ((boxP k (.cells cs t)).and R) := ⟨(f_law ((law_f H.law.rot).setRow cs)).rot, H.ents⟩
theorem RefAt.setAt {cs : Array Value} {t : TypeId} (H : RefAt w0 w r sd P st ((boxP k (.cells cs t)).and R)) (i : Nat) (y : Value) : RefAt w0 (w.setCell ⟨k, i, none⟩ y) r sd P st ((boxP k (.cells (cs.setIfInBounds i y) t)).and R) := ⟨(H.law.rot.setAt i y).rot, H.ents⟩
theorem RefAt.boxAt {o : Obj} (H : RefAt w0 w r sd P st ((boxP k o).and R)) : w.heap[k]? = some o := H.law.q.2.1.1
theorem RefAt.boxAt2 {o : Obj} (H : RefAt w0 w r sd P st (A.and ((boxP k o).and R))) : w.heap[k]? = some o := H.law.q.2.1.2.1.1
set_option maxRecDepth 100000 in
set_option maxHeartbeats 2000000 in
theorem ruse_any (H : RefAt w0 w r sd P st R) (hg : GoodH n st) (hn : n ≤ 900) (key : ByteArray) (hs : key.size ≤ 300) (t : Hs) (ht : useH sd st key = t) :
    Calls Tryz.prog 39 #[.pointer (some ⟨r, 0, none⟩), .string key] w fun e w' => (∃ v, e = .returned v) ∧ ∃ P', RefAt w0 w' r sd P' t R := by
  have hl : (allR st.ord).length ≤ 900 := by have := hg.len; omega
  have HT := hide ht
  have k3 := H.cells.2.2.2.1
  clear ht
  go_enter Tryz.func39, Tryz.ntmps39
  go_wp2_with (first
    | (go_at_call 70; refine (rjtouch_any H.judge H.law.below.size hg.jdG key (Nat.le_trans hs (by decide))).mono ?_; rintro e w1 ⟨⟨v0, rfl⟩, v1, h1, h2, h3⟩; have H1 := H.judgeTurn h1 h2 h3; clear h1 h2 h3 H k3; have k2 : w1.cell? ⟨r, 2, none⟩ = some (.pointer (some ⟨P.op, 0, none⟩)) := H1.cells.2.2.1)
    | (go_at_call 71; refine (rhit_is H1.listOut hl key _ _ rfl rfl).mono ?_; rintro e w2 ⟨rfl, vt, vs, N⟩; have H2 := RefAt.listBack H1.ents N; clear N H1 k2))
  go_end0
  exact ⟨⟨_, rfl⟩, _, by rw [← HT.out]; exact H2⟩
set_option maxRecDepth 100000 in
set_option maxHeartbeats 2000000 in
theorem rdrops_any (H : RefAt w0 w r sd P st R) (l : List ByteArray) (hl : st.drops = l) :
    Calls Tryz.prog 20 #[.pointer (some ⟨r, 0, none⟩)] w fun e w' => ∃ P', e = .returned P.vD ∧ RefAt w0 w' r sd P' (quietH st) ((rowP w0.heap.size 9 1 P.vD l.length (strV l)).and R) := by
  subst hl
  have k4 := H.cells.2.2.2.2
  have N := H.law.takeOut (A := rowP w0.heap.size 9 1 P.vD st.drops.length (strV st.drops)) 6 rfl
  have N1 := (N.rot.nil (n0 := w0.heap.size) (e := 9) (size := 1))
  obtain ⟨q1, q2, N2⟩ := RefAt.dropNew (P := P) (st := st) (ds := []) (v2 := .slice none 0 0) N1
  have HN2 := hide N2
  clear N N1 N2
  have hvD : ∃ a c, P.vD = .slice a st.drops.length c := own_shape H.drops
  have HE := hide H.ents
  clear H
  obtain ⟨pa, pc, hv⟩ := hvD
  rw [hv] at k4 q1 HN2 ⊢
  clear q1
  go_enter Tryz.func20, Tryz.ntmps20
  go_wp2
  go_ret
  exact ⟨{ P with vD := .slice none 0 0 }, rfl, HN2.out, HE.out⟩
set_option maxRecDepth 100000 in
set_option maxHeartbeats 4000000 in
theorem rlook_any (H : RefAt w0 w r sd P st R) (hg : GoodH n st) (hn : n ≤ 900) (key : ByteArray) (en : En) (t : Hs) (ht : lookH st key en = t) :
    Calls Tryz.prog 38 #[.pointer (some ⟨r, 0, none⟩), .string key, .agg (enC en)] w fun e w' => ∃ P', RefAt w0 w' r sd P' t R ∧
      ((livingH st key en = none ∧ e = .returned (.tuple #[.agg (itC zeroIt), .bool false])) ∨ ∃ x : Re, x ∈ P'.es ∧ livingH st key en = some x.ent ∧ e = .returned (.tuple #[.agg (itC x.t.it), .bool true])) := by
  obtain ⟨m, hm⟩ : ∃ m, posE key st.ents = m := ⟨_, rfl⟩
  have H1 := (H.box (.cells (enC en) 36)).box (.cells (itC zeroIt) 34)
  rw [World.size_alloc] at H1
  clear H
  cases hf : findE key st.ents with
  | none =>
    obtain rfl : t = st := by rw [← ht]; unfold lookH; rw [hf]
    have hL : livingH t key en = none := by unfold livingH; rw [hf]
    have hq : hasH t key = false := by unfold hasH; rw [hf]; rfl
    have HL := hide hL
    clear ht hf hL
    go_enter Tryz.func38, Tryz.ntmps38
    go_wp2_with (first
      | (go_at_call 64; refine (rat_any H1 hg hn key _ hq m hm).mono ?_; rintro e w1 ⟨rfl, hgr⟩; have H2 := H1.step hgr; clear H1 hgr)
      | (refine wpList_store_row rfl 34 _ _ rfl (w.heap.size + 1) (itC zeroIt) rfl rfl _ (itC zeroIt) H2.boxAt (item_size _) rfl (item_one _) ?_; have H3 := H2.setRow (itC zeroIt)))
    exact look_ret rfl H3.boxAt rfl rfl ⟨_, H3.less.less, .inl ⟨HL.out, rfl⟩⟩
  | some y =>
    have hq : hasH st key = true := by unfold hasH; rw [hf]; rfl
    have hp := pos_find hg.rise hf
    rw [hm] at hp
    obtain ⟨x, hx, hxy⟩ := H1.get hp
    obtain ⟨N, hN⟩ : ∃ N, P.es.length = N := ⟨_, rfl⟩
    have hmN : m < N := by rw [← hN]; exact (List.getElem?_eq_some_iff.1 hx).1
    have hmi : (m : Int) < (N : Int) := by omega
    obtain ⟨pa, cap, hv, hc1, hc2⟩ := H1.slice hN
    unfold maxLen at hc2
    have HV := hide hv
    have HN := hide hN
    have HX := hide hx
    have HXY := hide hxy
    obtain ⟨g, rfl, -⟩ := H1.reAt hN hv hx
    have HLV : Hid (liveN x.t.it.exp x.t.it.sec x.t.it.seq en = liveI y.1 en) := by
      show liveI x.ent.1 en = _
      rw [hxy]
    clear hv hN hx hxy hp
    cases hlv : liveI y.1 en with
    | false =>
      obtain rfl : t = dropH st key := by rw [← ht]; unfold lookH; rw [hf]; simp [hlv]
      have HL : Hid (livingH st key en = none) := by show livingH st key en = none; unfold livingH; rw [hf]; simp [hlv]
      rw [hlv] at HLV
      clear ht hf hlv
      go_enter Tryz.func38, Tryz.ntmps38
      go_wp2_with (first
        | (go_at_call 64; refine (rat_any H1 hg hn key _ hq m hm).mono ?_; rintro e w1 ⟨rfl, hgr⟩; have H2 := H1.step hgr; clear H1 hgr; have k0 : w1.cell? ⟨r, 0, none⟩ = some (.slice (some ⟨g, 0, none⟩) N cap) := (by rw [← HV.out]; exact H2.cells.1); obtain ⟨g', eg, hcs⟩ := H2.reAt HN.out HV.out HX.out; have hr : w1.rangeAt g (m * 12) (itC x.t.it).toList := (by cases eg; intro j v hv; exact hcs j v (by unfold Re.cells; rw [List.getElem?_append_left (List.getElem?_eq_some_iff.1 hv).1]; exact hv)); clear hcs eg; have H3 := H2.box (.cells (itC x.t.it) 34))
        | (refine wpList_load_mid rfl 34 _ rfl g (m * 12) rfl (itC x.t.it).toList _ hr Tryz.underlying34 rfl (by rw [item_size x.t.it, Array.length_toList]) ?_)
        | (refine wpList_store_row rfl 34 _ _ rfl w1.heap.size (itC x.t.it) rfl rfl _ (itC zeroIt) (World.alloc_heap_new w1 _) (item_size _) rfl (item_one _) ?_; rw [setRow_alloc])
        | (refine wpList_load_row rfl 34 _ rfl w1.heap.size rfl _ (itC x.t.it) _ _ H3.boxAt Tryz.underlying34 rfl (item_size _) ?_)
        | (refine wpList_load_row rfl 36 _ rfl w.heap.size rfl _ (enC en) _ _ H3.less.boxAt2 Tryz.underlying36 rfl (env_size _) ?_)
        | (go_at_call 68; refine (refLive_any x.t.it en _).mono ?_; rintro e w4 ⟨rfl, hgr⟩; have H4 := H3.step hgr.grown; clear H3 hgr; rw [HLV.out])
        | (go_at_call 69; refine (rdrop_any H4 hg hn key _ rfl).mono ?_; rintro e w5 ⟨⟨v5, rfl⟩, P5, H5⟩; clear H4; have H6 := H5.less; clear H5)
        | (refine wpList_store_row rfl 34 _ _ rfl (w.heap.size + 1) (itC zeroIt) rfl rfl _ (itC zeroIt) H6.boxAt (item_size _) rfl (item_one _) ?_; have H7 := H6.setRow (itC zeroIt)))
      exact look_ret rfl H7.boxAt rfl rfl ⟨_, H7.less.less, .inl ⟨HL.out, rfl⟩⟩
    | true =>
      obtain rfl : t = st := by rw [← ht]; unfold lookH; rw [hf]; simp [hlv]
      have HL : Hid (livingH t key en = some y) := by show livingH t key en = some y; unfold livingH; rw [hf]; simp [hlv]
      rw [hlv] at HLV
      clear ht hf hlv
      go_enter Tryz.func38, Tryz.ntmps38
      go_wp2_with (first
        | (go_at_call 64; refine (rat_any H1 hg hn key _ hq m hm).mono ?_; rintro e w1 ⟨rfl, hgr⟩; have H2 := H1.step hgr; clear H1 hgr; have k0 : w1.cell? ⟨r, 0, none⟩ = some (.slice (some ⟨g, 0, none⟩) N cap) := (by rw [← HV.out]; exact H2.cells.1); obtain ⟨g', eg, hcs⟩ := H2.reAt HN.out HV.out HX.out; have hr : w1.rangeAt g (m * 12) (itC x.t.it).toList := (by cases eg; intro j v hv; exact hcs j v (by unfold Re.cells; rw [List.getElem?_append_left (List.getElem?_eq_some_iff.1 hv).1]; exact hv)); clear hcs eg; have H3 := H2.box (.cells (itC x.t.it) 34); have MK : Hid True := trivial)
        | (refine wpList_load_mid rfl 34 _ rfl g (m * 12) rfl (itC x.t.it).toList _ hr Tryz.underlying34 rfl (by rw [item_size x.t.it, Array.length_toList]) ?_)
        | (refine wpList_store_row rfl 34 _ _ rfl w1.heap.size (itC x.t.it) rfl rfl _ (itC zeroIt) (World.alloc_heap_new w1 _) (item_size _) rfl (item_one _) ?_; rw [setRow_alloc])
        | (have t1 := MK; clear t1; refine wpList_load_row rfl 34 _ rfl w1.heap.size rfl _ (itC x.t.it) _ _ H3.boxAt Tryz.underlying34 rfl (item_size _) ?_)
        | (refine wpList_load_row rfl 36 _ rfl w.heap.size rfl _ (enC en) _ _ H3.less.boxAt2 Tryz.underlying36 rfl (env_size _) ?_)
        | (go_at_call 68; refine (refLive_any x.t.it en _).mono ?_; rintro e w4 ⟨rfl, hgr⟩; have H4 := H3.step hgr.grown; clear H3 hgr MK; rw [HLV.out])
        | (refine wpList_load_row rfl 34 _ rfl w1.heap.size rfl _ (itC x.t.it) _ _ H4.boxAt Tryz.underlying34 rfl (item_size _) ?_; have H6 := H4.less)
        | (refine wpList_store_row rfl 34 _ _ rfl (w.heap.size + 1) (itC x.t.it) rfl rfl _ (itC zeroIt) H6.boxAt (item_size _) rfl (item_one _) ?_; have H7 := H6.setRow (itC x.t.it)))
      exact look_ret rfl H7.boxAt rfl rfl ⟨_, H7.less.less, .inr ⟨x, List.mem_of_getElem? HX.out, by rw [HL.out, HXY.out], rfl⟩⟩
end
end Go.Proofs.YtckjjfkfapfdaaaGreat

namespace Go.Proofs.YtckjjfkfapfdaaaGreat
open Go.RowKit Go.Shelf

section
variable {w0 w : World} {r sd n : Nat} {R A : Part} {l : List Part}
theorem Law.consP (H : Law w0 w (A.and ((allP l).and R))) : Law w0 w ((allP (A :: l)).and R) := f_law ((law_f H).consP)
theorem Law.nilP (H : Law w0 w R) : Law w0 w ((allP []).and R) := f_law ((law_f H).nilP)
theorem Law.addP (H : Law w0 w R) (hq : A.q w) (ho : ∀ k, ¬ A.own k) : Law w0 w (A.and R) := ⟨H.below, ⟨hq, H.q, fun k hk => absurd hk (ho k)⟩, fun k hk => hk.elim (fun h => absurd h (ho k)) (H.lt k)⟩
theorem holdsS_nil (w : World) : HoldsS w (.slice none 0 0) [] := ⟨none, 0, rfl, fun i hi => by simp at hi, fun _ => rfl⟩
set_option maxRecDepth 100000 in
set_option maxHeartbeats 4000000 in
theorem rnew11_any (H : Law w0 w R) (sd : Nat) (bud most : Int) : Calls Tryz.prog 11 #[.int .u64 sd, .int .i64 bud, .int .i64 most] w fun e w' => ∃ r P, e = .returned (.pointer (some ⟨r, 0, none⟩)) ∧ RefAt w0 w' r sd P (freshH bud most) R := by
  go_enter Tryz.func11, Tryz.ntmps11
  go_wp2_with (first
    | (go_at_call 35; refine (rnew07_any bud w0.heap.size w H.below.size).mono ?_; rintro e w1 ⟨sp, gm, rfl, h1, h2, h3⟩; have H1 := H.new (A := slabRP w0.heap.size sp (freshS bud) (.slice none 0 0) (.slice none 0 0) gm) h3 h1 (fun k hk => ⟨h2 k hk, h1.lt k hk⟩); have H2 := H1.box (.cells #[.int .i64 most, .slice none 0 0, .slice none 0 0] 82); have hs2 := H2.below.size; clear h1 h2 h3 H H1)
    | (go_at_call 36; refine (rjnew_any sd w0.heap.size _ hs2).mono ?_; rintro e w3 ⟨jp, c, kc, g, rfl, h1, h2, h3⟩; have H3 := H2.new (A := judgeRP w0.heap.size jp c kc g sd freshJ (.slice none 0 0)) h3 h1 (fun k hk => ⟨h2 k hk, h1.lt k hk⟩); clear h1 h2 h3 H2 hs2))
  go_ret
  have H4 := H3.box (.cells (rhead ⟨sp, w1.heap.size, jp, .slice none 0 0, .slice none 0 0, [], .slice none 0 0, .slice none 0 0, gm, .slice none 0 0, .slice none 0 0, c, kc, g, .slice none 0 0⟩) 48)
  have E1 := (H4.nilP.nil (n0 := w0.heap.size) (e := 9) (size := 1)).consP
  have E2 := E1.rin.rot.consP
  have L1 := E2.rin.rot
  have L2 := ((L1.addP (A := readP (.slice none 0 0) []) (holdsS_nil _) (fun k hk => by cases hk)).nil (n0 := w0.heap.size) (e := 9) (size := 1))
  have L3 := Law.shut (st := freshR most) (vt := .slice none 0 0) (vs := .slice none 0 0) L2.rin.rot
  have E3 := L3.consP
  have E4 := E3.rin.rot.consP
  have E5 := (E4.addP (A := talesP []) (fun x hx => by cases hx) (fun k hk => by obtain ⟨x, hx, _⟩ := hk; cases hx)).consP
  have E6 := (E5.nil (n0 := w0.heap.size) (e := 87) (size := 12)).consP
  exact ⟨w3.heap.size, _, rfl, E6.rot.consP, rfl⟩
end
end Go.Proofs.YtckjjfkfapfdaaaGreat
