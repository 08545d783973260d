/- The contracts of package shard, over a word 'Sh' that says what a shard in memory has. Nothing of the program is walked here. Conditions: none. A shard in memory: its head, the table of its entries, the slab, the list, the judge, the drops, the entries and their bytes. Conditions: the contracts of the packages beneath it. -/
import Derived.Test.YtkfeafmpaodagaaGreatDoorG25Joined
import Derived.Test.YtkfeafmpaodagaaGreatDoorG01Joined
import Derived.Test.YtkfeafmpaodagaaGreatDoorG02Joined
import Derived.Test.YtkfeafmpaodagaaGreatDoorG13Joined
namespace Go.Proofs.YtkfeafmpaodagaaGreatDoor
open Go.RowKit Go.Shelf

/-- An item that is told: its address is its own. -/
structure Told where
  iv : Iv
  a : Option Addr
  c : Nat
def Told.it (x : Told) : It := itOf x.iv x.a x.c
def itEnc (x : Told) : Array Value := #[.agg (itC x.it)]
def giveP (x : Told) : Part := valP 0 x.a x.c x.iv.val
/-- What Look answers: a copy of what lives, or nothing. -/
def LookEnd (Sh : World → Nat → (Nat → Prop) → Nat → Nat → Hs → Prop) (w : World) (b : Nat) (own : Nat → Prop) (sd n : Nat) (st : Hs) (s : ByteArray) (en : En) (e : Ending) (w' : World) : Prop :=
  ∃ own', Sh w' b own' sd n (lookH st s en) ∧ Gr own w w' ∧ Grew w own own' ∧
    ((livingH st s en = none ∧ e = .returned (.tuple #[.agg (itC zeroIt), .bool false])) ∨
     ∃ y a c, livingH st s en = some y ∧ e = .returned (.tuple #[.agg (itC (itOf y.1 a c)), .bool true]) ∧ ValAt w.heap.size w' a c y.1.val ∧ ∀ k, (valP 0 a c y.1.val).own k → ¬ own' k)
/-- Bytes that may be read: they lie in none of these blocks. -/
def ReadAt (w : World) (own : Nat → Prop) (a : Option Addr) (c : Nat) (l : List UInt8) : Prop := Bs w a l.length c (ints l) ∧ ∀ k, 0 < l.length → (Value.slice a l.length c).ownBlock = some k → ¬ own k
structure ShardLib (Sh : World → Nat → (Nat → Prop) → Nat → Nat → Hs → Prop) : Prop where
  lt : ∀ {w b own sd n st}, Sh w b own sd n st → ∀ k, own k → k < w.heap.size
  good : ∀ {w b own sd n st}, Sh w b own sd n st → GoodH n st
  keep : ∀ {w w' b own sd n st}, Sh w b own sd n st → SameOn own w w' → Sh w' b own sd n st
  mono : ∀ {w b own sd n m st}, Sh w b own sd n st → n ≤ m → (m ≤ 901 ∨ st.slab.bud ≤ 57600) → Sh w b own sd m st
  new : ∀ (sd : Nat) (bud most : Int), sd < 18446744073709551616 → I64 bud → I64 most → ∀ w : World, Calls Tryz.prog 7 #[.int .u64 sd, .int .i64 bud, .int .i64 most] w fun e w' => ∃ b own, e = .returned (.pointer (some ⟨b, 0, none⟩)) ∧ (∀ k, own k → w.heap.size ≤ k) ∧ Sh w' b own sd 0 (freshH bud most) ∧ w.grownBy w' none
  look : ∀ {w b own sd n st}, Sh w b own sd n st → n ≤ 4398046511104 → ∀ (s : ByteArray) (en : En), s.size ≤ 140737488351232 → en.ok → Calls Tryz.prog 29 #[.pointer (some ⟨b, 0, none⟩), .string s, .agg (enC en)] w (LookEnd Sh w b own sd n st s en)
  use : ∀ {w b own sd n st}, Sh w b own sd n st → n ≤ 4398046511104 → ∀ s : ByteArray, s.size ≤ 140737488351232 → Calls Tryz.prog 30 #[.pointer (some ⟨b, 0, none⟩), .string s] w fun e w' => (∃ v, e = .returned v) ∧ ∃ own', Sh w' b own' sd n (useH sd st s) ∧ Gr own w w' ∧ Grew w own own'
  store : ∀ {w b own sd n st}, Sh w b own sd n st → n ≤ 4398046511104 → (n ≤ 900 ∨ st.slab.bud ≤ 57600) → ∀ (i : Iv) (a : Option Addr) (c : Nat) (en : En), i.ok → ReadAt w own a c i.val → en.ok → Calls Tryz.prog 135 #[.pointer (some ⟨b, 0, none⟩), .agg (itC (itOf i a c)), .agg (enC en)] w fun e w' => e = .returned (.int .i64 (storeH sd st i en).1) ∧ ∃ own', Sh w' b own' sd (n + 1) (storeH sd st i en).2 ∧ Gr own w w' ∧ Grew w own own'
  update : ∀ {w b own sd n st}, Sh w b own sd n st → n ≤ 4398046511104 → ∀ (i : Iv) (a : Option Addr) (c : Nat), i.ok → ReadAt w own a c i.val → Calls Tryz.prog 98 #[.pointer (some ⟨b, 0, none⟩), .agg (itC (itOf i a c))] w fun e w' => e = .returned (.int .i64 (updErr st i)) ∧ ∃ own', Sh w' b own' sd n (updH st i) ∧ Gr own w w' ∧ Grew w own own'
  remove : ∀ {w b own sd n st}, Sh w b own sd n st → n ≤ 4398046511104 → ∀ s : ByteArray, s.size ≤ 140737488351232 → Calls Tryz.prog 104 #[.pointer (some ⟨b, 0, none⟩), .string s] w fun e w' => e = .returned (.bool (hasH st s)) ∧ ∃ own', Sh w' b own' sd n (removeH st s) ∧ Gr own w w' ∧ Grew w own own'
  drops : ∀ {w b own sd n st}, Sh w b own sd n st → Calls Tryz.prog 18 #[.pointer (some ⟨b, 0, none⟩)] w fun e w' => ∃ v own', e = .returned v ∧ w'.ownsRow 0 9 1 v st.drops.length (strV st.drops) ∧ Sh w' b own' sd n (quietH st) ∧ (∀ k, v.ownBlock = some k → own k ∧ ¬ own' k) ∧ (∀ k, own' k → own k) ∧ Gr own w w'
  all : ∀ {w b own sd n st}, Sh w b own sd n st → n ≤ 4398046511104 → Calls Tryz.prog 45 #[.pointer (some ⟨b, 0, none⟩)] w fun e w' => ∃ g lb own2, e = .returned (.func (.func g) #[] lb) ∧ Sh w' b own sd n st ∧ w.grownBy w' none ∧ (∀ k, own k → own2 k) ∧ (∀ k, own2 k → own k ∨ (w.heap.size ≤ k ∧ k < w'.heap.size)) ∧
    (∀ args v, (callFunc g args).run Tryz.prog v = .ok (.enter g args) v) ∧ ∀ m, 5 ≤ m → SeqGive Fence.wide m Tryz.prog g lb itEnc giveP own2 (fun xs => xs.map Told.iv = st.ents.map Prod.fst) (fun pre => pre.map Told.iv <+: st.ents.map Prod.fst) w'
  used : ∀ {w b own sd n st}, Sh w b own sd n st → n ≤ 4398046511104 → Calls Tryz.prog 47 #[.pointer (some ⟨b, 0, none⟩)] w fun e w' => e = .returned (.int .i64 (usedS st.slab)) ∧ Sh w' b own sd n st ∧ w.grownBy w' none
  len : ∀ {w b own sd n st}, Sh w b own sd n st → n ≤ 4398046511104 → Calls Tryz.prog 81 #[.pointer (some ⟨b, 0, none⟩)] w fun e w' => e = .returned (.int .i64 st.ents.length) ∧ Sh w' b own sd n st ∧ w.grownBy w' none
end Go.Proofs.YtkfeafmpaodagaaGreatDoor

namespace Go.Proofs.YtkfeafmpaodagaaGreatDoor
open Go.RowKit Go.Shelf

/-- An entry in memory: its block; where its bytes lie. -/
structure Eb where
  blk : Nat
  iv : Iv
  ck : Ck
  a : Option Addr
  c : Nat
def Eb.ent (x : Eb) : Ent := (x.iv, x.ck)
def Eb.kv (x : Eb) : Kv := (x.iv.key, (x.blk : Int))
def Eb.it (x : Eb) : It := itOf x.iv x.a x.c
def Eb.cells (x : Eb) : Array Value := itC x.it ++ #[.int .i64 x.ck.1, .int .i64 x.ck.2]
def findB (k : ByteArray) (E : List Eb) : Option Eb := E.find? fun x => decide (x.iv.key = k)
def delB (k : ByteArray) (E : List Eb) : List Eb := E.filter fun x => decide (x.iv.key ≠ k)
def ptrB : Option Eb → Value
  | none => .pointer none
  | some x => .pointer (some ⟨x.blk, 0, none⟩)
def entsP (E : List Eb) : Part where
  own := fun k => ∃ x ∈ E, x.blk = k
  q := fun w => ∀ x ∈ E, w.heap[x.blk]? = some (.cells x.cells 130 (0, 0))
  on := fun _ _ h hs x hx => (hs x.blk ⟨x, hx, rfl⟩).trans (h x hx)
def valsP (E : List Eb) : Part where
  own := fun k => ∃ x ∈ E, (valP 0 x.a x.c x.iv.val).own k
  q := fun w => ∀ x ∈ E, ValAt 0 w x.a x.c x.iv.val
  on := fun w1 w2 h hs x hx => (valP 0 x.a x.c x.iv.val).on w1 w2 (h x hx) fun k hk => hs k ⟨x, hx, hk⟩
/-- Where a shard's parts are. -/
structure Sx where
  tb : Nat
  tw : Nat → Prop
  ts : Ts
  sb : Nat
  so : Nat → Prop
  ob : Nat
  oo : Nat → Prop
  jb : Nat
  js : List Nat
  vd : Value
  E : List Eb
variable {Sl : World → Nat → (Nat → Prop) → Sb → Prop} {Ls : World → Nat → (Nat → Prop) → Sr → Prop} {Jd : World → Nat → List Nat → Nat → Js → Prop} {Tb : World → Nat → (Nat → Prop) → Ts → Prop}
/-- The contracts beneath. -/
structure Libs (Sl : World → Nat → (Nat → Prop) → Sb → Prop) (Ls : World → Nat → (Nat → Prop) → Sr → Prop) (Jd : World → Nat → List Nat → Nat → Js → Prop) (Tb : World → Nat → (Nat → Prop) → Ts → Prop) : Prop where
  sl : SlabLib Sl
  ls : SlruLib Ls
  jd : TinyLib Jd
  tb : TableLib Tb
  it : ItemLib
def headP (b : Nat) (x : Sx) : Part := boxP b (.cells #[.pointer (some ⟨x.tb, 0, none⟩), .pointer (some ⟨x.sb, 0, none⟩), .pointer (some ⟨x.ob, 0, none⟩), .pointer (some ⟨x.jb, 0, none⟩), x.vd] 62)
def tableP (L : Libs Sl Ls Jd Tb) (b : Nat) (own : Nat → Prop) (st : Ts) : Part := ⟨own, fun w => Tb w b own st, fun _ _ h hs => L.tb.keep h hs⟩
def slabPt (L : Libs Sl Ls Jd Tb) (b : Nat) (own : Nat → Prop) (st : Sb) : Part := ⟨own, fun w => Sl w b own st, fun _ _ h hs => L.sl.keep h hs⟩
def listP (L : Libs Sl Ls Jd Tb) (b : Nat) (own : Nat → Prop) (st : Sr) : Part := ⟨own, fun w => Ls w b own st, fun _ _ h hs => L.ls.keep h hs⟩
def judgeP (L : Libs Sl Ls Jd Tb) (b : Nat) (js : List Nat) (sd : Nat) (j : Js) : Part := ⟨fun k => k ∈ js, fun w => Jd w b js sd j, fun _ _ h hs => L.jd.keep h hs⟩
def dropsP (v : Value) (l : List ByteArray) : Part := rowP 0 9 1 v l.length (strV l)
def shP (L : Libs Sl Ls Jd Tb) (b sd : Nat) (st : Hs) (x : Sx) : Part := allP [headP b x, tableP L x.tb x.tw x.ts, slabPt L x.sb x.so st.slab, listP L x.ob x.oo st.ord, judgeP L x.jb x.js sd st.jd, dropsP x.vd st.drops, entsP x.E, valsP x.E]
/-- What ties the table to the entries. -/
structure Fit (n : Nat) (st : Hs) (x : Sx) : Prop where
  small : SmallT x.ts 901
  tab : x.ts.l = x.E.map Eb.kv
  ents : st.ents = x.E.map Eb.ent
  blks : (x.E.map Eb.blk).Nodup
  good : GoodH n st
section
variable {F : Nat → Prop} {w0 w w' : World} {b sd n : Nat} {st : Hs} {x : Sx} {R : Part} {L : Libs Sl Ls Jd Tb}
theorem LawF.head (H : LawF F w0 w ((shP L b sd st x).and R)) : w.heap[b]? = some (.cells #[.pointer (some ⟨x.tb, 0, none⟩), .pointer (some ⟨x.sb, 0, none⟩), .pointer (some ⟨x.ob, 0, none⟩), .pointer (some ⟨x.jb, 0, none⟩), x.vd] 62 (0, 0)) := H.at 0 rfl
theorem LawF.headC (H : LawF F w0 w ((shP L b sd st x).and R)) : w.cell? ⟨b, 0, none⟩ = some (.pointer (some ⟨x.tb, 0, none⟩)) ∧ w.cell? ⟨b, 1, none⟩ = some (.pointer (some ⟨x.sb, 0, none⟩)) ∧ w.cell? ⟨b, 2, none⟩ = some (.pointer (some ⟨x.ob, 0, none⟩)) ∧ w.cell? ⟨b, 3, none⟩ = some (.pointer (some ⟨x.jb, 0, none⟩)) ∧ w.cell? ⟨b, 4, none⟩ = some x.vd := by
  simp [World.cell?, H.head]
theorem LawF.tabl (H : LawF F w0 w ((shP L b sd st x).and R)) : Tb w x.tb x.tw x.ts := H.at 1 rfl
theorem LawF.slab (H : LawF F w0 w ((shP L b sd st x).and R)) : Sl w x.sb x.so st.slab := H.at 2 rfl
theorem LawF.list (H : LawF F w0 w ((shP L b sd st x).and R)) : Ls w x.ob x.oo st.ord := H.at 3 rfl
theorem LawF.judge (H : LawF F w0 w ((shP L b sd st x).and R)) : Jd w x.jb x.js sd st.jd := H.at 4 rfl
theorem LawF.dropsR (H : LawF F w0 w ((shP L b sd st x).and R)) : w.ownsRow 0 9 1 x.vd st.drops.length (strV st.drops) := H.at 5 rfl
theorem LawF.entAt (H : LawF F w0 w ((shP L b sd st x).and R)) {y : Eb} (hy : y ∈ x.E) : w.heap[y.blk]? = some (.cells y.cells 130 (0, 0)) := H.at (A := entsP x.E) 6 rfl y hy
theorem LawF.valAt (H : LawF F w0 w ((shP L b sd st x).and R)) {y : Eb} (hy : y ∈ x.E) : ValAt 0 w y.a y.c y.iv.val := H.at (A := valsP x.E) 7 rfl y hy
theorem LawF.toTab (H : LawF F w0 w ((shP L b sd st x).and R)) {to' : Nat → Prop} {ts' : Ts} (h : Tb w' x.tb to' ts') (hg : Gr x.tw w w') (hgr : Grew w x.tw to') : LawF F w0 w' ((shP L b sd st { x with tw := to', ts := ts' }).and R) :=
  H.turnIn (A := tableP L x.tb x.tw x.ts) (A' := tableP L x.tb to' ts') 1 rfl h (fun k hk => L.tb.lt h k hk) hg hgr
theorem LawF.toSlab (H : LawF F w0 w ((shP L b sd st x).and R)) {so' : Nat → Prop} {sl' : Sb} (h : Sl w' x.sb so' sl') (hg : Gr x.so w w') (hgr : Grew w x.so so') : LawF F w0 w' ((shP L b sd { st with slab := sl' } { x with so := so' }).and R) :=
  H.turnIn (A := slabPt L x.sb x.so st.slab) (A' := slabPt L x.sb so' sl') 2 rfl h (fun k hk => L.sl.lt h k hk) hg hgr
theorem LawF.toList (H : LawF F w0 w ((shP L b sd st x).and R)) {oo' : Nat → Prop} {od' : Sr} (h : Ls w' x.ob oo' od') (hg : Gr x.oo w w') (hgr : Grew w x.oo oo') : LawF F w0 w' ((shP L b sd { st with ord := od' } { x with oo := oo' }).and R) :=
  H.turnIn (A := listP L x.ob x.oo st.ord) (A' := listP L x.ob oo' od') 3 rfl h (fun k hk => L.ls.lt h k hk) hg hgr
theorem LawF.toJudge (H : LawF F w0 w ((shP L b sd st x).and R)) {j' : Js} (h : Jd w' x.jb x.js sd j') (hg : Gr (· ∈ x.js) w w') : LawF F w0 w' ((shP L b sd { st with jd := j' } x).and R) :=
  H.turnIn (A := judgeP L x.jb x.js sd st.jd) (A' := judgeP L x.jb x.js sd j') 4 rfl h (fun k hk => L.jd.lt h k hk) hg fun _ hk => .inl hk
/-- Fewer entries. -/
theorem LawF.fewerE (H : LawF F w0 w ((shP L b sd st x).and R)) (E' : List Eb) (hE : ∀ y ∈ E', y ∈ x.E) (es : List Ent) : LawF F w0 w ((shP L b sd { st with ents := es } { x with E := E' }).and R) := by
  have H1 := H.lessIn (A := entsP x.E) (A' := entsP E') 6 rfl (fun h y hy => h y (hE y hy)) fun k ⟨y, hy, e⟩ => ⟨y, hE y hy, e⟩
  exact H1.lessIn (A := valsP x.E) (A' := valsP E') 7 rfl (fun h y hy => h y (hE y hy)) fun k ⟨y, hy, e⟩ => ⟨y, hE y hy, e⟩
/-- Another slice of drops in the head. -/
theorem LawF.headSet (H : LawF F w0 w ((shP L b sd st x).and R)) (v : Value) : Gr (headP b x).own w (w.setCell ⟨b, 4, none⟩ v) ∧ (headP b { x with vd := v }).q (w.setCell ⟨b, 4, none⟩ v) :=
  ⟨⟨rfl, rfl, rfl, by rw [World.size_setCell]; exact Nat.le_refl _, fun _ _ hn => heap_setCell_other _ _ _ _ hn⟩, heap_setCell_same w b 4 _ _ v H.head⟩
end
/-- What the table, and the entries, say of a key. -/
theorem findB_some {k : ByteArray} {E : List Eb} {y : Eb} (h : findB k E = some y) : y ∈ E ∧ y.iv.key = k := by
  unfold findB at h
  exact ⟨List.mem_of_find?_eq_some h, of_decide_eq_true (List.find?_some (p := fun x : Eb => decide (x.iv.key = k)) h)⟩
theorem findB_ent (k : ByteArray) (E : List Eb) : findE k (E.map Eb.ent) = (findB k E).map Eb.ent := by
  unfold findE findB
  rw [List.find?_map]
  rfl
theorem findB_kv (k : ByteArray) (E : List Eb) : getL k (E.map Eb.kv) = (findB k E).map fun y => (y.blk : Int) := by
  unfold getL findB
  rw [List.find?_map, Option.map_map]
  rfl
theorem delB_ent (k : ByteArray) (E : List Eb) : (delB k E).map Eb.ent = delE k (E.map Eb.ent) := by
  unfold delE delB
  rw [List.filter_map]
  rfl
theorem delB_kv (k : ByteArray) (E : List Eb) : (delB k E).map Eb.kv = delL k (E.map Eb.kv) := by
  unfold delL delB
  rw [List.filter_map]
  rfl
theorem mem_delB {k : ByteArray} {E : List Eb} {y : Eb} : y ∈ delB k E ↔ y ∈ E ∧ y.iv.key ≠ k := by simp [delB]
theorem delB_not {k : ByteArray} {E : List Eb} (h : findB k E = none) : delB k E = E := by
  unfold delB
  unfold findB at h
  rw [List.filter_eq_self]
  rw [List.find?_eq_none] at h
  intro y hy
  simpa using h y hy
theorem ptr_of (k : ByteArray) (E : List Eb) : ptrO (getL k (E.map Eb.kv)) = ptrB (findB k E) := by
  rw [findB_kv]
  cases findB k E with
  | none => rfl
  | some y =>
    show Value.pointer (some ⟨(y.blk : Int).toNat, 0, none⟩) = .pointer (some ⟨y.blk, 0, none⟩)
    rw [Int.toNat_natCast]
section
variable {n : Nat} {st : Hs} {x : Sx}
theorem Fit.find (f : Fit n st x) (k : ByteArray) : findE k st.ents = (findB k x.E).map Eb.ent := by rw [f.ents]; exact findB_ent k x.E
theorem Fit.got (f : Fit n st x) (k : ByteArray) : ptrO (getL k x.ts.l) = ptrB (findB k x.E) ∧ hasT x.ts k = (findB k x.E).isSome ∧ hasH st k = (findB k x.E).isSome := by
  refine ⟨by rw [f.tab]; exact ptr_of k x.E, ?_, ?_⟩
  · unfold hasT
    rw [f.tab, findB_kv, Option.isSome_map]
  · unfold hasH
    rw [f.find, Option.isSome_map]
theorem Fit.stepT (f : Fit n st x) : Fit n st { x with ts := stepT x.ts } := { f with small := smallT_step f.small, tab := f.tab }
theorem Fit.small5 (f : Fit n st x) (_ : n ≤ 4398046511104) : SmallT x.ts 5000 := smallT_mono f.small (by decide)
theorem Fit.smallS (f : Fit n st x) (_ : n ≤ 4398046511104) : Small st.slab 10000 := small_mono f.good.nine.2 (by decide)
theorem Fit.lenR (f : Fit n st x) (_ : n ≤ 4398046511104) : (allR st.ord).length < maxLen := by
  have h1 := f.good.len
  have h2 := f.good.nine.1
  have : (901 : Nat) < maxLen := by decide
  omega
theorem Fit.some (f : Fit n st x) {k : ByteArray} {y : Eb} (h : findB k x.E = some y) : findE k st.ents = some y.ent := by rw [f.find, h]; rfl
theorem Fit.none (f : Fit n st x) {k : ByteArray} (h : findB k x.E = none) : findE k st.ents = none := by rw [f.find, h]; rfl
theorem Fit.ckOk (f : Fit n st x) (_ : n ≤ 4398046511104) {y : Eb} (hy : y ∈ x.E) : CkOk y.ck := by
  have hm : y.ent ∈ st.ents := by rw [f.ents]; exact List.mem_map.2 ⟨y, hy, rfl⟩
  have hin : y.ck ∈ st.slab.inn := f.good.chunks.mem_iff.1 (List.mem_map.2 ⟨y.ent, hm, rfl⟩)
  obtain ⟨h1, h2, h3, h4⟩ := f.good.slabG.cls y.ck (List.mem_append_left _ hin)
  have h5 := f.good.nine.2.made
  have h6 : st.slab.made.getD y.ck.1.toNat 0 ≤ 9000 := by
    by_cases hk : y.ck.1.toNat < st.slab.made.length
    · simp only [List.getD, List.getElem?_eq_getElem hk, Option.getD_some]
      exact h5 _ (List.getElem_mem hk)
    · simp [List.getD, List.getElem?_eq_none (Nat.le_of_not_lt hk)]
  exact ⟨⟨by omega, by omega⟩, ⟨by omega, by omega⟩⟩
theorem Fit.valOk (f : Fit n st x) {y : Eb} (hy : y ∈ x.E) : y.iv.val.length ≤ 3000 := f.good.val (e := y.ent) (by rw [f.ents]; exact List.mem_map.2 ⟨y, hy, rfl⟩)
theorem Fit.ivOk (f : Fit n st x) {y : Eb} (hy : y ∈ x.E) : y.iv.ok := (f.good.cls y.ent (by rw [f.ents]; exact List.mem_map.2 ⟨y, hy, rfl⟩)).1
end
/-- An entry's cells. -/
theorem ent_cells {w : World} {y : Eb} (h : w.heap[y.blk]? = some (.cells y.cells 130 (0, 0))) : w.rangeAt y.blk 0 (itC y.it).toList ∧ w.cell? ⟨y.blk, 10, none⟩ = some (.int .i64 y.ck.1) ∧ w.cell? ⟨y.blk, 11, none⟩ = some (.int .i64 y.ck.2) ∧ w.cell? ⟨y.blk, 1, none⟩ = some (.slice y.a y.iv.val.length y.c) := by
  refine ⟨fun j v hv => ?_, ?_, ?_, ?_⟩
  · rw [Nat.zero_add]
    unfold World.cell?
    rw [h]
    show y.cells[j]? = some v
    unfold Eb.cells
    have hj : j < (itC y.it).size := by
      have := (List.getElem?_eq_some_iff.1 hv).1
      simpa using this
    rw [Array.getElem?_append_left hj]
    simpa using hv
  · unfold World.cell?
    rw [h]
    rfl
  · unfold World.cell?
    rw [h]
    rfl
  · unfold World.cell?
    rw [h]
    rfl
end Go.Proofs.YtkfeafmpaodagaaGreatDoor
