/- A shard in memory: its head, the table of its entries, the slab, the list, the judge, the drops, the entries and their bytes. Conditions: the contracts of the packages beneath it. A copy of an item, with bytes of its own. Conditions: values of at most 100000 bytes. Remove, drop and living of package shard. Conditions: the contracts of the packages beneath it; at most 900 stores, keys of at most 300 bytes. -/
import Derived.Test.YtckjjfkfapfdaaaGreatG08Joined
import Derived.Test.YtckjjfkfapfdaaaGreatG09Joined
import Derived.Test.YtckjjfkfapfdaaaGreatG10Joined
import Derived.Test.YtckjjfkfapfdaaaGreatG06Joined
namespace Go.Proofs.YtckjjfkfapfdaaaGreat
open Go.RowKit Go.Shelf

/-- An entry in memory: its block; where its bytes lie. -/
structure Eb where
  blk : Nat
  iv : Iv
  ck : Ck
  a : Option Addr
  c : Nat
def Eb.ent (x : Eb) : Ent := (x.iv, x.ck)
def Eb.kv (x : Eb) : Kv := (x.iv.key, (x.blk : Int))
def Eb.it (x : Eb) : It := itOf x.iv x.a x.c
def Eb.cells (x : Eb) : Array Value := itC x.it ++ #[.int .i64 x.ck.1, .int .i64 x.ck.2]
def findB (k : ByteArray) (E : List Eb) : Option Eb := E.find? fun x => decide (x.iv.key = k)
def delB (k : ByteArray) (E : List Eb) : List Eb := E.filter fun x => decide (x.iv.key ≠ k)
def ptrB : Option Eb → Value
  | none => .pointer none
  | some x => .pointer (some ⟨x.blk, 0, none⟩)
def entsP (E : List Eb) : Part where
  own := fun k => ∃ x ∈ E, x.blk = k
  q := fun w => ∀ x ∈ E, w.heap[x.blk]? = some (.cells x.cells 104 (0, 0))
  on := fun _ _ h hs x hx => (hs x.blk ⟨x, hx, rfl⟩).trans (h x hx)
def valsP (E : List Eb) : Part where
  own := fun k => ∃ x ∈ E, (valP 0 x.a x.c x.iv.val).own k
  q := fun w => ∀ x ∈ E, ValAt 0 w x.a x.c x.iv.val
  on := fun w1 w2 h hs x hx => (valP 0 x.a x.c x.iv.val).on w1 w2 (h x hx) fun k hk => hs k ⟨x, hx, hk⟩
/-- Where a shard's parts are. -/
structure Sx where
  tb : Nat
  tw : Nat → Prop
  ts : Ts
  sb : Nat
  so : Nat → Prop
  ob : Nat
  oo : Nat → Prop
  jb : Nat
  js : List Nat
  vd : Value
  E : List Eb
variable {Sl : World → Nat → (Nat → Prop) → Sb → Prop} {Ls : World → Nat → (Nat → Prop) → Sr → Prop} {Jd : World → Nat → List Nat → Nat → Js → Prop} {Tb : World → Nat → (Nat → Prop) → Ts → Prop}
/-- The contracts beneath. -/
structure Libs (Sl : World → Nat → (Nat → Prop) → Sb → Prop) (Ls : World → Nat → (Nat → Prop) → Sr → Prop) (Jd : World → Nat → List Nat → Nat → Js → Prop) (Tb : World → Nat → (Nat → Prop) → Ts → Prop) : Prop where
  sl : SlabLib Sl
  ls : SlruLib Ls
  jd : TinyLib Jd
  tb : TableLib Tb
  it : ItemLib
def headP (b : Nat) (x : Sx) : Part := boxP b (.cells #[.pointer (some ⟨x.tb, 0, none⟩), .pointer (some ⟨x.sb, 0, none⟩), .pointer (some ⟨x.ob, 0, none⟩), .pointer (some ⟨x.jb, 0, none⟩), x.vd] 79)
def tableP (L : Libs Sl Ls Jd Tb) (b : Nat) (own : Nat → Prop) (st : Ts) : Part := ⟨own, fun w => Tb w b own st, fun _ _ h hs => L.tb.keep h hs⟩
def slabPt (L : Libs Sl Ls Jd Tb) (b : Nat) (own : Nat → Prop) (st : Sb) : Part := ⟨own, fun w => Sl w b own st, fun _ _ h hs => L.sl.keep h hs⟩
def listP (L : Libs Sl Ls Jd Tb) (b : Nat) (own : Nat → Prop) (st : Sr) : Part := ⟨own, fun w => Ls w b own st, fun _ _ h hs => L.ls.keep h hs⟩
def judgeP (L : Libs Sl Ls Jd Tb) (b : Nat) (js : List Nat) (sd : Nat) (j : Js) : Part := ⟨fun k => k ∈ js, fun w => Jd w b js sd j, fun _ _ h hs => L.jd.keep h hs⟩
def dropsP (v : Value) (l : List ByteArray) : Part := rowP 0 9 1 v l.length (strV l)
def shP (L : Libs Sl Ls Jd Tb) (b sd : Nat) (st : Hs) (x : Sx) : Part := allP [headP b x, tableP L x.tb x.tw x.ts, slabPt L x.sb x.so st.slab, listP L x.ob x.oo st.ord, judgeP L x.jb x.js sd st.jd, dropsP x.vd st.drops, entsP x.E, valsP x.E]
/-- What ties the table to the entries. -/
structure Fit (n : Nat) (st : Hs) (x : Sx) : Prop where
  small : SmallT x.ts n
  tab : x.ts.l = x.E.map Eb.kv
  ents : st.ents = x.E.map Eb.ent
  blks : (x.E.map Eb.blk).Nodup
  good : GoodH n st
section
variable {F : Nat → Prop} {w0 w w' : World} {b sd n : Nat} {st : Hs} {x : Sx} {R : Part} {L : Libs Sl Ls Jd Tb}
theorem LawF.head (H : LawF F w0 w ((shP L b sd st x).and R)) : w.heap[b]? = some (.cells #[.pointer (some ⟨x.tb, 0, none⟩), .pointer (some ⟨x.sb, 0, none⟩), .pointer (some ⟨x.ob, 0, none⟩), .pointer (some ⟨x.jb, 0, none⟩), x.vd] 79 (0, 0)) := H.at 0 rfl
theorem LawF.headC (H : LawF F w0 w ((shP L b sd st x).and R)) : w.cell? ⟨b, 0, none⟩ = some (.pointer (some ⟨x.tb, 0, none⟩)) ∧ w.cell? ⟨b, 1, none⟩ = some (.pointer (some ⟨x.sb, 0, none⟩)) ∧ w.cell? ⟨b, 2, none⟩ = some (.pointer (some ⟨x.ob, 0, none⟩)) ∧ w.cell? ⟨b, 3, none⟩ = some (.pointer (some ⟨x.jb, 0, none⟩)) ∧ w.cell? ⟨b, 4, none⟩ = some x.vd := by
  simp [World.cell?, H.head]
theorem LawF.tabl (H : LawF F w0 w ((shP L b sd st x).and R)) : Tb w x.tb x.tw x.ts := H.at 1 rfl
theorem LawF.slab (H : LawF F w0 w ((shP L b sd st x).and R)) : Sl w x.sb x.so st.slab := H.at 2 rfl
theorem LawF.list (H : LawF F w0 w ((shP L b sd st x).and R)) : Ls w x.ob x.oo st.ord := H.at 3 rfl
theorem LawF.judge (H : LawF F w0 w ((shP L b sd st x).and R)) : Jd w x.jb x.js sd st.jd := H.at 4 rfl
theorem LawF.dropsR (H : LawF F w0 w ((shP L b sd st x).and R)) : w.ownsRow 0 9 1 x.vd st.drops.length (strV st.drops) := H.at 5 rfl
theorem LawF.entAt (H : LawF F w0 w ((shP L b sd st x).and R)) {y : Eb} (hy : y ∈ x.E) : w.heap[y.blk]? = some (.cells y.cells 104 (0, 0)) := H.at (A := entsP x.E) 6 rfl y hy
theorem LawF.valAt (H : LawF F w0 w ((shP L b sd st x).and R)) {y : Eb} (hy : y ∈ x.E) : ValAt 0 w y.a y.c y.iv.val := H.at (A := valsP x.E) 7 rfl y hy
theorem LawF.toTab (H : LawF F w0 w ((shP L b sd st x).and R)) {to' : Nat → Prop} {ts' : Ts} (h : Tb w' x.tb to' ts') (hg : Gr x.tw w w') (hgr : Grew w x.tw to') : LawF F w0 w' ((shP L b sd st { x with tw := to', ts := ts' }).and R) :=
  H.turnIn (A := tableP L x.tb x.tw x.ts) (A' := tableP L x.tb to' ts') 1 rfl h (fun k hk => L.tb.lt h k hk) hg hgr
theorem LawF.toSlab (H : LawF F w0 w ((shP L b sd st x).and R)) {so' : Nat → Prop} {sl' : Sb} (h : Sl w' x.sb so' sl') (hg : Gr x.so w w') (hgr : Grew w x.so so') : LawF F w0 w' ((shP L b sd { st with slab := sl' } { x with so := so' }).and R) :=
  H.turnIn (A := slabPt L x.sb x.so st.slab) (A' := slabPt L x.sb so' sl') 2 rfl h (fun k hk => L.sl.lt h k hk) hg hgr
theorem LawF.toList (H : LawF F w0 w ((shP L b sd st x).and R)) {oo' : Nat → Prop} {od' : Sr} (h : Ls w' x.ob oo' od') (hg : Gr x.oo w w') (hgr : Grew w x.oo oo') : LawF F w0 w' ((shP L b sd { st with ord := od' } { x with oo := oo' }).and R) :=
  H.turnIn (A := listP L x.ob x.oo st.ord) (A' := listP L x.ob oo' od') 3 rfl h (fun k hk => L.ls.lt h k hk) hg hgr
theorem LawF.toJudge (H : LawF F w0 w ((shP L b sd st x).and R)) {j' : Js} (h : Jd w' x.jb x.js sd j') (hg : Gr (· ∈ x.js) w w') : LawF F w0 w' ((shP L b sd { st with jd := j' } x).and R) :=
  H.turnIn (A := judgeP L x.jb x.js sd st.jd) (A' := judgeP L x.jb x.js sd j') 4 rfl h (fun k hk => L.jd.lt h k hk) hg fun _ hk => .inl hk
/-- Fewer entries. -/
theorem LawF.fewerE (H : LawF F w0 w ((shP L b sd st x).and R)) (E' : List Eb) (hE : ∀ y ∈ E', y ∈ x.E) (es : List Ent) : LawF F w0 w ((shP L b sd { st with ents := es } { x with E := E' }).and R) := by
  have H1 := H.lessIn (A := entsP x.E) (A' := entsP E') 6 rfl (fun h y hy => h y (hE y hy)) fun k ⟨y, hy, e⟩ => ⟨y, hE y hy, e⟩
  exact H1.lessIn (A := valsP x.E) (A' := valsP E') 7 rfl (fun h y hy => h y (hE y hy)) fun k ⟨y, hy, e⟩ => ⟨y, hE y hy, e⟩
/-- Another slice of drops in the head. -/
theorem LawF.headSet (H : LawF F w0 w ((shP L b sd st x).and R)) (v : Value) : Gr (headP b x).own w (w.setCell ⟨b, 4, none⟩ v) ∧ (headP b { x with vd := v }).q (w.setCell ⟨b, 4, none⟩ v) :=
  ⟨⟨rfl, rfl, rfl, by rw [World.size_setCell]; exact Nat.le_refl _, fun _ _ hn => heap_setCell_other _ _ _ _ hn⟩, heap_setCell_same w b 4 _ _ v H.head⟩
end
/-- What the table, and the entries, say of a key. -/
theorem findB_some {k : ByteArray} {E : List Eb} {y : Eb} (h : findB k E = some y) : y ∈ E ∧ y.iv.key = k := by
  unfold findB at h
  exact ⟨List.mem_of_find?_eq_some h, of_decide_eq_true (List.find?_some (p := fun x : Eb => decide (x.iv.key = k)) h)⟩
theorem findB_ent (k : ByteArray) (E : List Eb) : findE k (E.map Eb.ent) = (findB k E).map Eb.ent := by
  unfold findE findB
  rw [List.find?_map]
  rfl
theorem findB_kv (k : ByteArray) (E : List Eb) : getL k (E.map Eb.kv) = (findB k E).map fun y => (y.blk : Int) := by
  unfold getL findB
  rw [List.find?_map, Option.map_map]
  rfl
theorem delB_ent (k : ByteArray) (E : List Eb) : (delB k E).map Eb.ent = delE k (E.map Eb.ent) := by
  unfold delE delB
  rw [List.filter_map]
  rfl
theorem delB_kv (k : ByteArray) (E : List Eb) : (delB k E).map Eb.kv = delL k (E.map Eb.kv) := by
  unfold delL delB
  rw [List.filter_map]
  rfl
theorem mem_delB {k : ByteArray} {E : List Eb} {y : Eb} : y ∈ delB k E ↔ y ∈ E ∧ y.iv.key ≠ k := by simp [delB]
theorem delB_not {k : ByteArray} {E : List Eb} (h : findB k E = none) : delB k E = E := by
  unfold delB
  unfold findB at h
  rw [List.filter_eq_self]
  rw [List.find?_eq_none] at h
  intro y hy
  simpa using h y hy
theorem ptr_of (k : ByteArray) (E : List Eb) : ptrO (getL k (E.map Eb.kv)) = ptrB (findB k E) := by
  rw [findB_kv]
  cases findB k E with
  | none => rfl
  | some y =>
    show Value.pointer (some ⟨(y.blk : Int).toNat, 0, none⟩) = .pointer (some ⟨y.blk, 0, none⟩)
    rw [Int.toNat_natCast]
section
variable {n : Nat} {st : Hs} {x : Sx}
theorem Fit.find (f : Fit n st x) (k : ByteArray) : findE k st.ents = (findB k x.E).map Eb.ent := by rw [f.ents]; exact findB_ent k x.E
theorem Fit.got (f : Fit n st x) (k : ByteArray) : ptrO (getL k x.ts.l) = ptrB (findB k x.E) ∧ hasT x.ts k = (findB k x.E).isSome ∧ hasH st k = (findB k x.E).isSome := by
  refine ⟨by rw [f.tab]; exact ptr_of k x.E, ?_, ?_⟩
  · unfold hasT
    rw [f.tab, findB_kv, Option.isSome_map]
  · unfold hasH
    rw [f.find, Option.isSome_map]
theorem Fit.stepT (f : Fit n st x) : Fit n st { x with ts := stepT x.ts } := { f with small := smallT_step f.small, tab := f.tab }
theorem Fit.small5 (f : Fit n st x) (hn : n ≤ 900) : SmallT x.ts 5000 := smallT_mono f.small (by omega)
theorem Fit.smallS (f : Fit n st x) (hn : n ≤ 900) : Small st.slab 10000 := small_mono f.good.small (by omega)
theorem Fit.lenR (f : Fit n st x) (hn : n ≤ 900) : (allR st.ord).length < maxLen := by
  have h1 := f.good.len
  have : (900 : Nat) < maxLen := by decide
  omega
theorem Fit.some (f : Fit n st x) {k : ByteArray} {y : Eb} (h : findB k x.E = some y) : findE k st.ents = some y.ent := by rw [f.find, h]; rfl
theorem Fit.none (f : Fit n st x) {k : ByteArray} (h : findB k x.E = none) : findE k st.ents = none := by rw [f.find, h]; rfl
theorem Fit.ckOk (f : Fit n st x) (hn : n ≤ 900) {y : Eb} (hy : y ∈ x.E) : CkOk y.ck := by
  have hm : y.ent ∈ st.ents := by rw [f.ents]; exact List.mem_map.2 ⟨y, hy, rfl⟩
  have hin : y.ck ∈ st.slab.inn := f.good.chunks.mem_iff.1 (List.mem_map.2 ⟨y.ent, hm, rfl⟩)
  obtain ⟨h1, h2, h3, h4⟩ := f.good.slabG.cls y.ck (List.mem_append_left _ hin)
  have h5 := f.good.small.made
  have h6 : st.slab.made.getD y.ck.1.toNat 0 ≤ n := by
    by_cases hk : y.ck.1.toNat < st.slab.made.length
    · simp only [List.getD, List.getElem?_eq_getElem hk, Option.getD_some]
      exact h5 _ (List.getElem_mem hk)
    · simp [List.getD, List.getElem?_eq_none (Nat.le_of_not_lt hk)]
  exact ⟨⟨by omega, by omega⟩, ⟨by omega, by omega⟩⟩
theorem Fit.ivOk (f : Fit n st x) {y : Eb} (hy : y ∈ x.E) : y.iv.ok := (f.good.cls y.ent (by rw [f.ents]; exact List.mem_map.2 ⟨y, hy, rfl⟩)).1
end
/-- An entry's cells. -/
theorem ent_cells {w : World} {y : Eb} (h : w.heap[y.blk]? = some (.cells y.cells 104 (0, 0))) : w.rangeAt y.blk 0 (itC y.it).toList ∧ w.cell? ⟨y.blk, 10, none⟩ = some (.int .i64 y.ck.1) ∧ w.cell? ⟨y.blk, 11, none⟩ = some (.int .i64 y.ck.2) ∧ w.cell? ⟨y.blk, 1, none⟩ = some (.slice y.a y.iv.val.length y.c) := by
  refine ⟨fun j v hv => ?_, ?_, ?_, ?_⟩
  · rw [Nat.zero_add]
    unfold World.cell?
    rw [h]
    show y.cells[j]? = some v
    unfold Eb.cells
    have hj : j < (itC y.it).size := by
      have := (List.getElem?_eq_some_iff.1 hv).1
      simpa using this
    rw [Array.getElem?_append_left hj]
    simpa using hv
  · unfold World.cell?
    rw [h]
    rfl
  · unfold World.cell?
    rw [h]
    rfl
  · unfold World.cell?
    rw [h]
    rfl
end Go.Proofs.YtckjjfkfapfdaaaGreat

namespace Go.Proofs.YtckjjfkfapfdaaaGreat
open Go.RowKit

theorem it_val (v : Iv) (a a' : Option Addr) (c c' : Nat) : (itC (itOf v a c)).setIfInBounds 1 (.slice a' v.val.length c') = itC (itOf v a' c') := by simp [itC, itOf]
/-- An item that lies in a block is what is answered. -/
theorem it_ret {fn : Func} {W : World} {r : Nat} {i : It} {tmps : Array Value} {p : Tmp} {Post : Ending → World → Prop} (hf : fn.results = #[.cell p 34]) (hb : W.heap[r]? = some (.cells (itC i) 34 (0, 0))) (h4 : tmps.getD p undef = .pointer (some ⟨r, 0, none⟩))
    (h : Post (.returned (.agg (itC i))) W) : bodyPost Tryz.prog fn Post .ret { tmps := tmps, defers := [] } W :=
  bodyPost_ret (results_cell_row hf tmps W r 34 (itC i) (0, 0) _ h4 hb Tryz.underlying34 rfl (item_size i)) rfl h
set_option maxRecDepth 100000 in
set_option maxHeartbeats 1000000 in
theorem own_any (v : Iv) (hl : v.val.length ≤ 100000) {w : World} {a : Option Addr} {c : Nat} (hr : Bs w a v.val.length c (ints v.val)) :
    Calls Tryz.prog 53 #[.agg (itC (itOf v a c))] w fun e w' => ∃ a' c', e = .returned (.agg (itC (itOf v a' c'))) ∧ ValAt w.heap.size w' a' c' v.val ∧ w.grownBy w' none := by
  have H0 := (((LawF.bare w).box (.cells (itC (itOf v a c)) 34)).box (.cells (itC zeroIt) 34)).rot
  rw [World.size_alloc] at H0
  have hr0 := (hr.alloc (.cells (itC (itOf v a c)) 34)).alloc (.cells (itC zeroIt) 34)
  go_enter Tryz.func53, Tryz.ntmps53
  go_upto_region 1 with fail
  have hz : (w.alloc (.cells (itC (itOf v a c)) 34)).alloc (.cells (itC zeroIt) 34) = (w.alloc (.cells (itC (itOf v a c)) 34)).alloc (.cells #[.string ⟨#[]⟩, .slice none 0 0, .int .u32 0, .int .i64 0, .int .u64 0, .int .i64 0, .int .u64 0, .bool false, .bool false, .bool false] 34) := rfl
  rw [← hz]
  clear hz
  generalize (w.alloc (.cells (itC (itOf v a c)) 34)).alloc (.cells (itC zeroIt) 34) = W at *
  have c1 : W.cell? ⟨w.heap.size, 1, none⟩ = some (.slice a v.val.length c) := (it_cells H0.q.1).2.1
  have f1 : W.frozen? ⟨w.heap.size, 1, none⟩ = false := frozen_of_row _ _ _ _ _ H0.q.1
  go_wp2_with (first
    | (go_at_call 87; refine (clone_any hl hr0).mono ?_; rintro e w1 ⟨a1, c2, rfl, hv1, hg1⟩; have H1 := (hv1.new H0 hg1).rot; have c3 : w1.cell? ⟨w.heap.size, 1, none⟩ = some (.slice a v.val.length c) := (it_cells H1.q.1).2.1; have f3 : w1.frozen? ⟨w.heap.size, 1, none⟩ = false := frozen_of_row _ _ _ _ _ H1.q.1; have H2 := H1.setAt 1 (.slice a1 v.val.length c2); rw [it_val] at H2)
    | (refine wpList_load_row rfl 34 _ rfl w.heap.size rfl _ (itC (itOf v a1 c2)) _ _ H2.q.1 Tryz.underlying34 rfl (item_size _) ?_; have H3 := H2.rin.rot)
    | (refine wpList_store_row rfl 34 _ _ rfl (w.heap.size + 1) (itC (itOf v a1 c2)) rfl rfl _ (itC zeroIt) H3.q.1 (item_size _) rfl (item_one _) ?_; have H4 := H3.setRow (itC (itOf v a1 c2))))
  exact it_ret rfl H4.q.1 rfl ⟨a1, c2, rfl, ValAt.base H4.q.2.1.2.1.1 H0.gr.size, H4.grownN⟩
end Go.Proofs.YtckjjfkfapfdaaaGreat

namespace Go.Proofs.YtckjjfkfapfdaaaGreat
open Go.RowKit Go.Shelf
variable {Sl : World → Nat → (Nat → Prop) → Sb → Prop} {Ls : World → Nat → (Nat → Prop) → Sr → Prop} {Jd : World → Nat → List Nat → Nat → Js → Prop} {Tb : World → Nat → (Nat → Prop) → Ts → Prop}

/-- Behind a call: the shard stands, and its entries are these. -/
def After (L : Libs Sl Ls Jd Tb) (F : Nat → Prop) (w0 w : World) (b sd n : Nat) (R : Part) (st : Hs) (E : List Eb) : Prop := ∃ x, LawF F w0 w ((shP L b sd st x).and R) ∧ Fit n st x ∧ x.E = E
theorem nodup_delB {E : List Eb} (k : ByteArray) (h : (E.map Eb.blk).Nodup) : ((delB k E).map Eb.blk).Nodup := (List.filter_sublist.map _).nodup h
section
variable {L : Libs Sl Ls Jd Tb} {F : Nat → Prop} {w0 w : World} {b sd n : Nat} {st : Hs} {x : Sx} {R : Part}
set_option maxRecDepth 100000 in
set_option maxHeartbeats 4000000 in
theorem remove_in (H : LawF F w0 w ((shP L b sd st x).and R)) (f : Fit n st x) (hn : n ≤ 900) (s : ByteArray) (hs : s.size ≤ 300) :
    Calls Tryz.prog 27 #[.pointer (some ⟨b, 0, none⟩), .string s] w fun e w' => e = .returned (.bool (hasH st s)) ∧ After L F w0 w' b sd n R (removeH st s) (delB s x.E) := by
  have h5 := f.small5 hn
  obtain ⟨g1, g2, g3⟩ := f.got s
  obtain ⟨c0, -⟩ := H.headC
  have hsm : s.size ≤ maxLen := Nat.le_trans hs (by decide)
  cases hf : findB s x.E with
  | none =>
    rw [hf] at g1 g2 g3
    have K := hide (show ptrO (getL s x.ts.l) = .pointer none ∧ hasT x.ts s = false from ⟨g1, g2⟩)
    have HR : Hid (removeH st s = st) := by show _ = _; unfold removeH; rw [f.none hf]
    have HH := hide g3
    have HD := hide (delB_not hf)
    have HF := hide f
    clear g1 g2 g3 f hf
    go_enter Tryz.func27, Tryz.ntmps27
    go_wp2_with (go_at_call 54; refine (L.tb.get H.tabl h5 s hs).mono ?_; rintro e w1 ⟨he, own1, hT, hg, hgr⟩; rw [K.out.1, K.out.2] at he; subst he; have H1 := H.toTab hT hg hgr)
    go_ret
    rw [HH.out, HR.out]
    exact ⟨rfl, _, H1, ⟨smallT_step HF.out.small, HF.out.tab, HF.out.ents, HF.out.blks, HF.out.good⟩, HD.out.symm⟩
  | some y =>
    rw [hf] at g1 g2 g3
    have K := hide (show ptrO (getL s x.ts.l) = .pointer (some ⟨y.blk, 0, none⟩) ∧ hasT x.ts s = true from ⟨g1, g2⟩)
    have HR : Hid (removeH st s = outH st s y.ent) := by show _ = _; unfold removeH; rw [f.some hf]
    have HH := hide g3
    have hy := (findB_some hf).1
    have hck := f.ckOk hn hy
    have hsS := f.smallS hn
    have hlR := Nat.le_of_lt (f.lenR hn)
    have HF := hide f
    have HY := hide hf
    have h6 : SmallT (stepT x.ts) 5000 := smallT_step h5
    clear g1 g2 g3 f hf
    go_enter Tryz.func27, Tryz.ntmps27
    go_upto_region 5 with (first
      | (go_at_call 54; refine (L.tb.get H.tabl h5 s hs).mono ?_; rintro e w1 ⟨he, own1, hT, hg, hgr⟩; rw [K.out.1, K.out.2] at he; subst he; have H1 := H.toTab hT hg hgr; clear hT hg hgr H c0; obtain ⟨c0, -⟩ := H1.headC)
      | (go_at_call 55; refine (L.tb.delete H1.tabl h6 s hs).mono ?_; rintro e w2 ⟨rfl, own2, hT, hg, hgr⟩; have H2 := (H1.toTab hT hg hgr).drew; clear hT hg hgr H1 c0))
    obtain ⟨-, c1, -⟩ := H2.headC
    obtain ⟨-, k1, k2, -⟩ := ent_cells (H2.entAt hy)
    go_region_held (fun w' => w'.cell? ⟨b, 1, none⟩ = some (.pointer (some ⟨x.sb, 0, none⟩)) ∧ w'.cell? ⟨y.blk, 10, none⟩ = some (.int .i64 y.ck.1) ∧ w'.cell? ⟨y.blk, 11, none⟩ = some (.int .i64 y.ck.2)) (first | exact ⟨c1, k1, k2⟩ | exact ⟨c3, k3, k4⟩) ((go_at_call 56; refine (L.sl.free H2.slab hsS y.ck hck).mono ?_; rintro e w3 ⟨rfl, own3, hS, hg, hgr⟩; have H3 := H2.toSlab hS hg hgr; obtain ⟨-, c3, c32, -⟩ := H3.headC; obtain ⟨-, k3, k4, -⟩ := ent_cells (H3.entAt hy)))
    all_goals
      go_wp2_with (go_at_call 57; refine (L.ls.remove H3.list hlR s hsm).mono ?_; rintro e w4 ⟨rfl, own4, hL, hg, hgr⟩; have H4 := H3.toList hL hg hgr)
      go_ret
      rw [HH.out, HR.out]
      exact ⟨rfl, _, H4.fewerE (delB s x.E) (fun z hz => (mem_delB.1 hz).1) (delE s st.ents), ⟨smallT_del (smallT_step HF.out.small) s, by show delL s x.ts.l = _; rw [HF.out.tab, delB_kv], by show delE s st.ents = _; rw [HF.out.ents, delB_ent], nodup_delB s HF.out.blks, (goodH_out HF.out.good (HF.out.some HY.out)).1⟩, rfl⟩
/-- One more drop. -/
theorem LawF.appD {W w8 : World} {v' : Value} {s : ByteArray} {tmp : Obj} (H : LawF F w0 W ((shP L b sd st x).and R)) (hown : w8.ownsRow 0 9 1 v' (st.drops.length + 1) (strV st.drops ++ [.string s])) (hgrow : (W.alloc tmp).grownBy w8 x.vd.ownBlock) (hat : v'.ownBlock = x.vd.ownBlock ∨ v'.ownBlock = some (W.alloc tmp).heap.size) :
    w8.cell? ⟨b, 4, none⟩ = some x.vd ∧ w8.frozen? ⟨b, 4, none⟩ = false ∧ LawF F w0 (w8.setCell ⟨b, 4, none⟩ v') ((shP L b sd (toldH st s) { x with vd := v' }).and R) := by
  have hsa : (W.alloc tmp).heap.size = W.heap.size + 1 := World.size_alloc _ _
  have hs1 := hgrow.size
  have hown2 : w8.ownsRow 0 9 1 v' (st.drops ++ [s]).length (strV (st.drops ++ [s])) := by
    rw [List.length_append, strV_app]
    exact hown
  have H1 := H.turnIn (A := dropsP x.vd st.drops) (A' := dropsP v' (st.drops ++ [s])) 5 rfl hown2 (fun k hk => (own_at hown2 hk).2.1) ⟨hgrow.1, hgrow.2, hgrow.3, by omega, fun k hk hr => (hgrow.block k (by omega) (fun e => hr e.symm)).trans (Below.heap_alloc _ _ _ hk)⟩ fun k hk => (by
    rcases hat with h | h
    · exact .inl (h.symm.trans hk)
    · have hk' : v'.ownBlock = some k := hk
      rw [h] at hk'
      cases hk'
      exact .inr (by omega))
  have hh : w8.heap[b]? = some (.cells #[.pointer (some ⟨x.tb, 0, none⟩), .pointer (some ⟨x.sb, 0, none⟩), .pointer (some ⟨x.ob, 0, none⟩), .pointer (some ⟨x.jb, 0, none⟩), x.vd] 79 (0, 0)) := H1.at (A := headP b x) 0 rfl
  refine ⟨by simp [World.cell?, hh], frozen_of_row _ _ _ _ _ hh, ?_⟩
  exact H1.turnIn (A := headP b x) (A' := headP b { x with vd := v' }) 0 rfl (heap_setCell_same w8 b 4 _ _ v' hh) (fun k hk => by rw [World.size_setCell]; exact H1.atLt (A := headP b x) 0 rfl k hk) ⟨rfl, rfl, rfl, by rw [World.size_setCell]; exact Nat.le_refl _, fun _ _ hn => heap_setCell_other _ _ _ _ hn⟩ fun _ hk => .inl hk
set_option maxRecDepth 100000 in
set_option maxHeartbeats 4000000 in
theorem drop_in (H : LawF F w0 w ((shP L b sd st x).and R)) (f : Fit n st x) (hn : n ≤ 900) (s : ByteArray) (hs : s.size ≤ 300) {y : Eb} (hf : findB s x.E = some y) :
    Calls Tryz.prog 79 #[.pointer (some ⟨b, 0, none⟩), .string s] w fun e w' => (∃ v, e = .returned v) ∧ After L F w0 w' b sd n R (dropH st s) (delB s x.E) := by
  unfold dropH
  obtain ⟨i0, hi, hz0, hz1, hz2⟩ := info_parts info_str
  have hfe := f.some hf
  have gd : Hid (GoodH n (toldH (removeH st s) s)) := (goodH_drop f.good hfe).1
  have hdl : (removeH st s).drops.length ≤ 900 := by
    have : (removeH st s).drops = st.drops := by unfold removeH; rw [hfe]; rfl
    rw [this]
    have := f.good.len
    omega
  go_enter Tryz.func79, Tryz.ntmps79
  go_upto_region 1 with (go_at_call 27; refine (remove_in H f hn s hs).mono ?_; rintro e w1 ⟨rfl, x1, H1, f1, hE⟩)
  obtain ⟨-, -, -, -, c4⟩ := H1.headC
  have hrow := H1.dropsR
  clear H hfe hf f
  go_wp2_with (at_builtin; refine wpList_append_own_at _ rfl _ _ 46 rfl 0 9 i0 (.string ⟨#[]⟩) 1 16 Tryz.underlying46 hi hz0 hz1 hz2 rfl (by decide) _ _ _ rfl (hrow.alloc _) ⟨_, 0, none⟩ 1 1 [.string s] rfl rfl (cell_one_new _ _ _) (by simp [Value.oneCell']) (by unfold maxLen; omega) (by omega) (Nat.zero_le _) ?_; intro v' w8 hown' hgrow _ hat; obtain ⟨g', cap', rfl⟩ := ownsRow_succ hown'; obtain ⟨d1, d2, H8⟩ := H1.appD hown' hgrow hat)
  go_end0
  exact ⟨⟨_, rfl⟩, _, H8, ⟨f1.small, f1.tab, f1.ents, f1.blks, gd.out⟩, hE⟩
end
def livB (s : ByteArray) (en : En) (E : List Eb) : Option Eb := match findB s E with | none => none | some y => if liveI y.iv en then some y else none
def lookB (s : ByteArray) (en : En) (E : List Eb) : List Eb := match findB s E with | none => E | some y => if liveI y.iv en then E else delB s E
theorem ent_load {w : World} {y : Eb} (h : w.heap[y.blk]? = some (.cells y.cells 104 (0, 0))) : (loadVar 34 ⟨y.blk, 0, none⟩).run Tryz.prog w = .ok (.agg (itC y.it)) w := by
  have h1 := run_loadVar_mid (P := Tryz.prog) w y.blk 0 34 (itC y.it).toList _ (ent_cells h).1 Tryz.underlying34 rfl (by rw [item_size y.it, Array.length_toList])
  simpa using h1
theorem ent_cellsG {w : World} {y : Eb} (h : w.heap[y.blk]? = some (.cells y.cells 104 (0, 0))) :
    (∀ n os, (Sort.grow (w.drewN n) os).cell? ⟨y.blk, 0, none⟩ = some (.string y.iv.key)) ∧ (∀ n os, (Sort.grow (w.drewN n) os).cell? ⟨y.blk, 1, none⟩ = some (.slice y.a y.iv.val.length y.c)) ∧ (∀ n os, (Sort.grow (w.drewN n) os).cell? ⟨y.blk, 2, none⟩ = some (.int .u32 y.iv.fl)) ∧ (∀ n os, (Sort.grow (w.drewN n) os).cell? ⟨y.blk, 3, none⟩ = some (.int .i64 y.iv.exp)) ∧
    (∀ n os, (Sort.grow (w.drewN n) os).cell? ⟨y.blk, 4, none⟩ = some (.int .u64 y.iv.cas)) ∧ (∀ n os, (Sort.grow (w.drewN n) os).cell? ⟨y.blk, 5, none⟩ = some (.int .i64 y.iv.sec)) ∧ (∀ n os, (Sort.grow (w.drewN n) os).cell? ⟨y.blk, 6, none⟩ = some (.int .u64 y.iv.seq)) ∧ (∀ n os, (Sort.grow (w.drewN n) os).cell? ⟨y.blk, 7, none⟩ = some (.bool y.iv.st)) ∧
    (∀ n os, (Sort.grow (w.drewN n) os).cell? ⟨y.blk, 8, none⟩ = some (.bool y.iv.won)) ∧ (∀ n os, (Sort.grow (w.drewN n) os).cell? ⟨y.blk, 9, none⟩ = some (.bool y.iv.seen)) := by
  have h' := fun n os => heap_grow h n os
  have at_ : ∀ (j : Nat) (v : Value), y.cells[j]? = some v → ∀ n os, (Sort.grow (w.drewN n) os).cell? ⟨y.blk, j, none⟩ = some v := fun j v hv n os => by
    unfold World.cell?
    rw [h' n os]
    exact hv
  exact ⟨at_ 0 _ rfl, at_ 1 _ rfl, at_ 2 _ rfl, at_ 3 _ rfl, at_ 4 _ rfl, at_ 5 _ rfl, at_ 6 _ rfl, at_ 7 _ rfl, at_ 8 _ rfl, at_ 9 _ rfl⟩
theorem env_load {w : World} {k : Nat} {en : En} (h : w.heap[k]? = some (.cells (enC en) 36 (0, 0))) : (loadVar 36 ⟨k, 0, none⟩).run Tryz.prog w = .ok (.agg (enC en)) w :=
  run_loadVar_row w k 36 36 (enC en) (0, 0) _ h Tryz.underlying36 rfl (env_size en)
section
variable {L : Libs Sl Ls Jd Tb} {F : Nat → Prop} {w0 w : World} {b sd n : Nat} {st : Hs} {x : Sx} {R : Part}
theorem LawF.unbox {A B : Part} (H : LawF F w0 w (A.and (B.and R))) : LawF F w0 w (A.and R) := H.rot.right
set_option maxRecDepth 100000 in
set_option maxHeartbeats 4000000 in
theorem living_in (H : LawF F w0 w ((shP L b sd st x).and R)) (f : Fit n st x) (hn : n ≤ 900) (s : ByteArray) (hs : s.size ≤ 300) (en : En) (hen : en.ok) :
    Calls Tryz.prog 48 #[.pointer (some ⟨b, 0, none⟩), .string s, .agg (enC en)] w fun e w' => e = .returned (ptrB (livB s en x.E)) ∧ After L F w0 w' b sd n R (lookH st s en) (lookB s en x.E) := by
  have mixed : Tryz.prog.follows .mixedOrders = true := by kernel_rfl
  have h5 := f.small5 hn
  obtain ⟨g1, g2, -⟩ := f.got s
  have H0 := (H.box (.cells (enC en) 36)).rot
  obtain ⟨c0, -⟩ := H0.headC
  cases hf : findB s x.E with
  | none =>
    rw [hf] at g1 g2
    have K := hide (show ptrO (getL s x.ts.l) = .pointer none ∧ hasT x.ts s = false from ⟨g1, g2⟩)
    have hR : lookH st s en = st := by unfold lookH; rw [f.none hf]
    have hL : livB s en x.E = none := by unfold livB; rw [hf]
    have hK : lookB s en x.E = x.E := by unfold lookB; rw [hf]
    rw [hR, hL, hK]
    clear g1 g2 H hR hL hK
    go_enter Tryz.func48, Tryz.ntmps48
    go_wp2_with (go_at_call 54; refine (L.tb.get H0.tabl h5 s hs).mono ?_; rintro e w1 ⟨he, own1, hT, hg, hgr⟩; rw [K.out.1, K.out.2] at he; subst he; have H1 := (H0.toTab hT hg hgr).unbox)
    go_ret
    exact ⟨rfl, _, H1, ⟨smallT_step f.small, f.tab, f.ents, f.blks, f.good⟩, rfl⟩
  | some y =>
    rw [hf] at g1 g2
    have K := hide (show ptrO (getL s x.ts.l) = .pointer (some ⟨y.blk, 0, none⟩) ∧ hasT x.ts s = true from ⟨g1, g2⟩)
    have hy := (findB_some hf).1
    have hok := (f.ivOk hy).it y.a y.c
    have hfe := f.some hf
    have HV := hide (fun W => L.it.live y.it en hok hen W)
    cases hlv : liveI y.iv en with
    | true =>
      have hR : lookH st s en = st := by unfold lookH; rw [hfe]; exact if_pos hlv
      have hL : livB s en x.E = some y := by unfold livB; rw [hf]; exact if_pos hlv
      have hK : lookB s en x.E = x.E := by unfold lookB; rw [hf]; exact if_pos hlv
      rw [hR, hL, hK]
      rw [show liveN y.it.exp y.it.sec y.it.seq en = true from hlv] at HV
      clear g1 g2 H hR hL hK hlv
      go_enter Tryz.func48, Tryz.ntmps48
      go_upto_region 4 with (go_at_call 54; refine (L.tb.get H0.tabl h5 s hs).mono ?_; rintro e w1 ⟨he, own1, hT, hg, hgr⟩; rw [K.out.1, K.out.2] at he; subst he; have H1 := H0.toTab hT hg hgr)
      obtain ⟨d0, d1, d2, d3, d4, d5, d6, d7, d8, d9⟩ := ent_cellsG (H1.entAt hy)
      obtain ⟨k0, k1, k2, k3⟩ := en_cellsG (show w1.heap[w.heap.size]? = some (.cells (enC en) 36 (0, 0)) from H1.rot.q.1)
      go_quiet_grown ((go_at_call 24; exact Calls.grown_of (HV.out _)))
      have H2 := H1.unbox.step (Gd.grown ⟨nq, osq, rfl⟩)
      go_wp2
      go_ret
      exact ⟨rfl, _, H2, ⟨smallT_step f.small, f.tab, f.ents, f.blks, f.good⟩, rfl⟩
    | false =>
      have hR : lookH st s en = dropH st s := by unfold lookH; rw [hfe]; exact if_neg (by rw [show liveI y.ent.1 en = false from hlv]; decide)
      have hL : livB s en x.E = none := by unfold livB; rw [hf]; exact if_neg (by rw [hlv]; decide)
      have hK : lookB s en x.E = delB s x.E := by unfold lookB; rw [hf]; exact if_neg (by rw [hlv]; decide)
      rw [hR, hL, hK]
      rw [show liveN y.it.exp y.it.sec y.it.seq en = false from hlv] at HV
      clear g1 g2 H hR hL hK hlv
      go_enter Tryz.func48, Tryz.ntmps48
      go_upto_region 4 with (go_at_call 54; refine (L.tb.get H0.tabl h5 s hs).mono ?_; rintro e w1 ⟨he, own1, hT, hg, hgr⟩; rw [K.out.1, K.out.2] at he; subst he; have H1 := H0.toTab hT hg hgr)
      obtain ⟨d0, d1, d2, d3, d4, d5, d6, d7, d8, d9⟩ := ent_cellsG (H1.entAt hy)
      obtain ⟨k0, k1, k2, k3⟩ := en_cellsG (show w1.heap[w.heap.size]? = some (.cells (enC en) 36 (0, 0)) from H1.rot.q.1)
      go_quiet_grown ((go_at_call 24; exact Calls.grown_of (HV.out _)))
      have H2 := H1.unbox.step (Gd.grown ⟨nq, osq, rfl⟩)
      go_wp2_with (go_at_call 79; refine (drop_in H2 ⟨smallT_step f.small, f.tab, f.ents, f.blks, f.good⟩ hn s hs hf).mono ?_; rintro e w3 ⟨⟨v, rfl⟩, H3⟩)
      go_ret
      exact ⟨rfl, H3⟩
end
end Go.Proofs.YtckjjfkfapfdaaaGreat
