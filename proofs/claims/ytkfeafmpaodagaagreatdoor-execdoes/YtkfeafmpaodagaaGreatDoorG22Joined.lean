/- The contracts of package shard, over a word 'Sh' that says what a shard in memory has. Nothing of the program is walked here. Conditions: none. A shard in memory: its head, the table of its entries, the slab, the list, the judge, the drops, the entries and their bytes. Conditions: the contracts of the packages beneath it. -/
import Derived.Test.YtkfeafmpaodagaaGreatDoorG21Joined
import Derived.Test.YtkfeafmpaodagaaGreatDoorG01Joined
import Derived.Test.YtkfeafmpaodagaaGreatDoorG02Joined
import Derived.Test.YtkfeafmpaodagaaGreatDoorG11Joined
namespace Go.Proofs.YtkfeafmpaodagaaGreatDoor
set_option maxHeartbeats 16000000
section
open Go.RowKit Go.Shelf
structure jFf where
 iv : Iv
 a : Option Addr
 c : Nat
def jFf.it (x : jFf) : It:=jAe x.iv x.a x.c
def jSe (x : jFf) : Array Value:=#[.agg (itC x.it)]
def jIs (x : jFf) : jAd:=jA5 0 x.a x.c x.iv.val
def kBg (Sh : World → Nat → (Nat → Prop) → Nat → Nat → Hs → Prop) (w : World) (b : Nat) (own : Nat → Prop) (sd n : Nat) (st : Hs) (s : ByteArray) (en : En) (e : Ending) (w' : World) : Prop :=
 ∃ own',Sh w' b own' sd n (jAy st s en) ∧ Gr own w w' ∧ jBm w own own' ∧
  ((jAp st s en = none ∧ e = .returned (.tuple #[.agg (itC jBw),.bool false])) ∨
   ∃ y a c,jAp st s en = some y ∧ e = .returned (.tuple #[.agg (itC (jAe y.1 a c)),.bool true]) ∧ jDi w.heap.size w' a c y.1.val ∧ ∀ k,(jA5 0 a c y.1.val).own k → ¬ own' k)
def jG7 (w : World) (own : Nat → Prop) (a : Option Addr) (c : Nat) (l : List UInt8) : Prop:=Bs w a l.length c (jA6 l) ∧ ∀ k,0 < l.length → (Value.slice a l.length c).ownBlock = some k → ¬ own k
structure jA7 (Sh : World → Nat → (Nat → Prop) → Nat → Nat → Hs → Prop) : Prop where
 lt : ∀ {w b own sd n st},Sh w b own sd n st → ∀ k,own k → k < w.heap.size
 good : ∀ {w b own sd n st},Sh w b own sd n st → jAo n st
 keep : ∀ {w w' b own sd n st},Sh w b own sd n st → jMh own w w' → Sh w' b own sd n st
 mono : ∀ {w b own sd n m st},Sh w b own sd n st → n ≤ m → (m ≤ 901 ∨ st.slab.bud ≤ 57600) → Sh w b own sd m st
 new : ∀ (sd : Nat) (bud most : Int),sd < 18446744073709551616 → I64 bud → I64 most → ∀ w : World,Calls Tryz.prog 7 #[.int .u64 sd,.int .i64 bud,.int .i64 most] w fun e w' => ∃ b own,e = .returned (.pointer (some ⟨b,0,none⟩)) ∧ (∀ k,own k → w.heap.size ≤ k) ∧ Sh w' b own sd 0 (jG8 bud most) ∧ w.grownBy w' none
 look : ∀ {w b own sd n st},Sh w b own sd n st → n ≤ 4398046511104 → ∀ (s : ByteArray) (en : En),s.size ≤ 140737488351232 → en.ok → Calls Tryz.prog 29 #[.pointer (some ⟨b,0,none⟩),.string s,.agg (enC en)] w (kBg Sh w b own sd n st s en)
 use : ∀ {w b own sd n st},Sh w b own sd n st → n ≤ 4398046511104 → ∀ s : ByteArray,s.size ≤ 140737488351232 → Calls Tryz.prog 30 #[.pointer (some ⟨b,0,none⟩),.string s] w fun e w' => (∃ v,e = .returned v) ∧ ∃ own',Sh w' b own' sd n (jGt sd st s) ∧ Gr own w w' ∧ jBm w own own'
 store : ∀ {w b own sd n st},Sh w b own sd n st → n ≤ 4398046511104 → (n ≤ 900 ∨ st.slab.bud ≤ 57600) → ∀ (i : Iv) (a : Option Addr) (c : Nat) (en : En),i.ok → jG7 w own a c i.val → en.ok → Calls Tryz.prog 135 #[.pointer (some ⟨b,0,none⟩),.agg (itC (jAe i a c)),.agg (enC en)] w fun e w' => e = .returned (.int .i64 (jBk sd st i en).1) ∧ ∃ own',Sh w' b own' sd (n + 1) (jBk sd st i en).2 ∧ Gr own w w' ∧ jBm w own own'
 update : ∀ {w b own sd n st},Sh w b own sd n st → n ≤ 4398046511104 → ∀ (i : Iv) (a : Option Addr) (c : Nat),i.ok → jG7 w own a c i.val → Calls Tryz.prog 98 #[.pointer (some ⟨b,0,none⟩),.agg (itC (jAe i a c))] w fun e w' => e = .returned (.int .i64 (jJs st i)) ∧ ∃ own',Sh w' b own' sd n (jBa st i) ∧ Gr own w w' ∧ jBm w own own'
 remove : ∀ {w b own sd n st},Sh w b own sd n st → n ≤ 4398046511104 → ∀ s : ByteArray,s.size ≤ 140737488351232 → Calls Tryz.prog 104 #[.pointer (some ⟨b,0,none⟩),.string s] w fun e w' => e = .returned (.bool (jCs st s)) ∧ ∃ own',Sh w' b own' sd n (jBv st s) ∧ Gr own w w' ∧ jBm w own own'
 drops : ∀ {w b own sd n st},Sh w b own sd n st → Calls Tryz.prog 18 #[.pointer (some ⟨b,0,none⟩)] w fun e w' => ∃ v own',e = .returned v ∧ w'.ownsRow 0 9 1 v st.drops.length (jB6 st.drops) ∧ Sh w' b own' sd n (jGb st) ∧ (∀ k,v.ownBlock = some k → own k ∧ ¬ own' k) ∧ (∀ k,own' k → own k) ∧ Gr own w w'
 all : ∀ {w b own sd n st},Sh w b own sd n st → n ≤ 4398046511104 → Calls Tryz.prog 45 #[.pointer (some ⟨b,0,none⟩)] w fun e w' => ∃ g lb own2,e = .returned (.func (.func g) #[] lb) ∧ Sh w' b own sd n st ∧ w.grownBy w' none ∧ (∀ k,own k → own2 k) ∧ (∀ k,own2 k → own k ∨ (w.heap.size ≤ k ∧ k < w'.heap.size)) ∧
  (∀ args v,(callFunc g args).run Tryz.prog v = .ok (.enter g args) v) ∧ ∀ m,5 ≤ m → jHd Fence.wide m Tryz.prog g lb jSe jIs own2 (fun xs => xs.map jFf.iv = st.ents.map Prod.fst) (fun pre => pre.map jFf.iv <+: st.ents.map Prod.fst) w'
 used : ∀ {w b own sd n st},Sh w b own sd n st → n ≤ 4398046511104 → Calls Tryz.prog 47 #[.pointer (some ⟨b,0,none⟩)] w fun e w' => e = .returned (.int .i64 (jBn st.slab)) ∧ Sh w' b own sd n st ∧ w.grownBy w' none
 len : ∀ {w b own sd n st},Sh w b own sd n st → n ≤ 4398046511104 → Calls Tryz.prog 81 #[.pointer (some ⟨b,0,none⟩)] w fun e w' => e = .returned (.int .i64 st.ents.length) ∧ Sh w' b own sd n st ∧ w.grownBy w' none
end
section
open Go.RowKit Go.Shelf
structure Eb where
 blk : Nat
 iv : Iv
 ck : Ck
 a : Option Addr
 c : Nat
def Eb.ent (x : Eb) : Ent:=(x.iv,x.ck)
def Eb.kv (x : Eb) : Kv:=(x.iv.key,(x.blk : Int))
def Eb.it (x : Eb) : It:=jAe x.iv x.a x.c
def Eb.cells (x : Eb) : Array Value:=itC x.it ++ #[.int .i64 x.ck.1,.int .i64 x.ck.2]
def jBq (k : ByteArray) (E : List Eb) : Option Eb:=E.find? fun x => decide (x.iv.key = k)
def jFs (k : ByteArray) (E : List Eb) : List Eb:=E.filter fun x => decide (x.iv.key ≠ k)
def ptrB : Option Eb → Value
 | none => .pointer none
 | some x => .pointer (some ⟨x.blk,0,none⟩)
def jGv (E : List Eb) : jAd where
 own:=fun k => ∃ x ∈ E,x.blk = k
 q:=fun w => ∀ x ∈ E,w.heap[x.blk]? = some (.cells x.cells 130 (0,0))
 on:=fun _ _ h hs x hx => (hs x.blk ⟨x,hx,rfl⟩).trans (h x hx)
def jEw (E : List Eb) : jAd where
 own:=fun k => ∃ x ∈ E,(jA5 0 x.a x.c x.iv.val).own k
 q:=fun w => ∀ x ∈ E,jDi 0 w x.a x.c x.iv.val
 on:=fun w1 w2 h hs x hx => (jA5 0 x.a x.c x.iv.val).on w1 w2 (h x hx) fun k hk => hs k ⟨x,hx,hk⟩
structure Sx where
 tb : Nat
 tw : Nat → Prop
 ts : Ts
 sb : Nat
 so : Nat → Prop
 ob : Nat
 oo : Nat → Prop
 jb : Nat
 js : List Nat
 vd : Value
 E : List Eb
variable {Sl : World → Nat → (Nat → Prop) → Sb → Prop} {Ls : World → Nat → (Nat → Prop) → Sr → Prop} {Jd : World → Nat → List Nat → Nat → Js → Prop} {Tb : World → Nat → (Nat → Prop) → Ts → Prop}
structure jEk (Sl : World → Nat → (Nat → Prop) → Sb → Prop) (Ls : World → Nat → (Nat → Prop) → Sr → Prop) (Jd : World → Nat → List Nat → Nat → Js → Prop) (Tb : World → Nat → (Nat → Prop) → Ts → Prop) : Prop where
 sl : kA3 Sl
 ls : kBj Ls
 jd : jT7 Jd
 tb : jX5 Tb
 it : kA1
def jJi (b : Nat) (x : Sx) : jAd:=jAn b (.cells #[.pointer (some ⟨x.tb,0,none⟩),.pointer (some ⟨x.sb,0,none⟩),.pointer (some ⟨x.ob,0,none⟩),.pointer (some ⟨x.jb,0,none⟩),x.vd] 62)
def jMe (L : jEk Sl Ls Jd Tb) (b : Nat) (own : Nat → Prop) (st : Ts) : jAd:=⟨own,fun w => Tb w b own st,fun _ _ h hs => L.tb.keep h hs⟩
def jPv (L : jEk Sl Ls Jd Tb) (b : Nat) (own : Nat → Prop) (st : Sb) : jAd:=⟨own,fun w => Sl w b own st,fun _ _ h hs => L.sl.keep h hs⟩
def jSk (L : jEk Sl Ls Jd Tb) (b : Nat) (own : Nat → Prop) (st : Sr) : jAd:=⟨own,fun w => Ls w b own st,fun _ _ h hs => L.ls.keep h hs⟩
def jO3 (L : jEk Sl Ls Jd Tb) (b : Nat) (js : List Nat) (sd : Nat) (j : Js) : jAd:=⟨fun k => k ∈ js,fun w => Jd w b js sd j,fun _ _ h hs => L.jd.keep h hs⟩
def jIm (v : Value) (l : List ByteArray) : jAd:=jB2 0 9 1 v l.length (jB6 l)
def shP (L : jEk Sl Ls Jd Tb) (b sd : Nat) (st : Hs) (x : Sx) : jAd:=jCi [jJi b x,jMe L x.tb x.tw x.ts,jPv L x.sb x.so st.slab,jSk L x.ob x.oo st.ord,jO3 L x.jb x.js sd st.jd,jIm x.vd st.drops,jGv x.E,jEw x.E]
structure Fit (n : Nat) (st : Hs) (x : Sx) : Prop where
 small : jCj x.ts 901
 tab : x.ts.l = x.E.map Eb.kv
 ents : st.ents = x.E.map Eb.ent
 blks : (x.E.map Eb.blk).Nodup
 good : jAo n st
section
variable {F : Nat → Prop} {w0 w w' : World} {b sd n : Nat} {st : Hs} {x : Sx} {R : jAd} {L : jEk Sl Ls Jd Tb}
theorem jAb.head (H : jAb F w0 w ((shP L b sd st x).and R)) : w.heap[b]? = some (.cells #[.pointer (some ⟨x.tb,0,none⟩),.pointer (some ⟨x.sb,0,none⟩),.pointer (some ⟨x.ob,0,none⟩),.pointer (some ⟨x.jb,0,none⟩),x.vd] 62 (0,0)):=H.at 0 rfl
theorem jAb.headC (H : jAb F w0 w ((shP L b sd st x).and R)) : w.cell? ⟨b,0,none⟩ = some (.pointer (some ⟨x.tb,0,none⟩)) ∧ w.cell? ⟨b,1,none⟩ = some (.pointer (some ⟨x.sb,0,none⟩)) ∧ w.cell? ⟨b,2,none⟩ = some (.pointer (some ⟨x.ob,0,none⟩)) ∧ w.cell? ⟨b,3,none⟩ = some (.pointer (some ⟨x.jb,0,none⟩)) ∧ w.cell? ⟨b,4,none⟩ = some x.vd:=by
 simp [World.cell?,H.head]
theorem jAb.tabl (H : jAb F w0 w ((shP L b sd st x).and R)) : Tb w x.tb x.tw x.ts:=H.at 1 rfl
theorem jAb.slab (H : jAb F w0 w ((shP L b sd st x).and R)) : Sl w x.sb x.so st.slab:=H.at 2 rfl
theorem jAb.list (H : jAb F w0 w ((shP L b sd st x).and R)) : Ls w x.ob x.oo st.ord:=H.at 3 rfl
theorem jAb.judge (H : jAb F w0 w ((shP L b sd st x).and R)) : Jd w x.jb x.js sd st.jd:=H.at 4 rfl
theorem jAb.dropsR (H : jAb F w0 w ((shP L b sd st x).and R)) : w.ownsRow 0 9 1 x.vd st.drops.length (jB6 st.drops):=H.at 5 rfl
theorem jAb.entAt (H : jAb F w0 w ((shP L b sd st x).and R)) {y : Eb} (hy : y ∈ x.E) : w.heap[y.blk]? = some (.cells y.cells 130 (0,0)):=H.at (A:=jGv x.E) 6 rfl y hy
theorem jAb.valAt (H : jAb F w0 w ((shP L b sd st x).and R)) {y : Eb} (hy : y ∈ x.E) : jDi 0 w y.a y.c y.iv.val:=H.at (A:=jEw x.E) 7 rfl y hy
theorem jAb.toTab (H : jAb F w0 w ((shP L b sd st x).and R)) {to' : Nat → Prop} {ts' : Ts} (h : Tb w' x.tb to' ts') (hg : Gr x.tw w w') (hgr : jBm w x.tw to') : jAb F w0 w' ((shP L b sd st { x with tw:=to',ts:=ts' }).and R) :=
 H.turnIn (A:=jMe L x.tb x.tw x.ts) (A':=jMe L x.tb to' ts') 1 rfl h (fun k hk => L.tb.lt h k hk) hg hgr
theorem jAb.toSlab (H : jAb F w0 w ((shP L b sd st x).and R)) {so' : Nat → Prop} {sl' : Sb} (h : Sl w' x.sb so' sl') (hg : Gr x.so w w') (hgr : jBm w x.so so') : jAb F w0 w' ((shP L b sd { st with slab:=sl' } { x with so:=so' }).and R) :=
 H.turnIn (A:=jPv L x.sb x.so st.slab) (A':=jPv L x.sb so' sl') 2 rfl h (fun k hk => L.sl.lt h k hk) hg hgr
theorem jAb.toList (H : jAb F w0 w ((shP L b sd st x).and R)) {oo' : Nat → Prop} {od' : Sr} (h : Ls w' x.ob oo' od') (hg : Gr x.oo w w') (hgr : jBm w x.oo oo') : jAb F w0 w' ((shP L b sd { st with ord:=od' } { x with oo:=oo' }).and R) :=
 H.turnIn (A:=jSk L x.ob x.oo st.ord) (A':=jSk L x.ob oo' od') 3 rfl h (fun k hk => L.ls.lt h k hk) hg hgr
theorem jAb.toJudge (H : jAb F w0 w ((shP L b sd st x).and R)) {j' : Js} (h : Jd w' x.jb x.js sd j') (hg : Gr (· ∈ x.js) w w') : jAb F w0 w' ((shP L b sd { st with jd:=j' } x).and R) :=
 H.turnIn (A:=jO3 L x.jb x.js sd st.jd) (A':=jO3 L x.jb x.js sd j') 4 rfl h (fun k hk => L.jd.lt h k hk) hg fun _ hk => .inl hk
theorem jAb.fewerE (H : jAb F w0 w ((shP L b sd st x).and R)) (E' : List Eb) (hE : ∀ y ∈ E',y ∈ x.E) (es : List Ent) : jAb F w0 w ((shP L b sd { st with ents:=es } { x with E:=E' }).and R):=by
 have H1:=H.lessIn (A:=jGv x.E) (A':=jGv E') 6 rfl (fun h y hy => h y (hE y hy)) fun k ⟨y,hy,e⟩ => ⟨y,hE y hy,e⟩
 exact H1.lessIn (A:=jEw x.E) (A':=jEw E') 7 rfl (fun h y hy => h y (hE y hy)) fun k ⟨y,hy,e⟩ => ⟨y,hE y hy,e⟩
theorem jAb.headSet (H : jAb F w0 w ((shP L b sd st x).and R)) (v : Value) : Gr (jJi b x).own w (w.setCell ⟨b,4,none⟩ v) ∧ (jJi b { x with vd:=v }).q (w.setCell ⟨b,4,none⟩ v) :=
 ⟨⟨rfl,rfl,rfl,by rw [World.size_setCell];exact Nat.le_refl _,fun _ _ hn => heap_setCell_other _ _ _ _ hn⟩,heap_setCell_same w b 4 _ _ v H.head⟩
end
theorem jFl {k : ByteArray} {E : List Eb} {y : Eb} (h : jBq k E = some y) : y ∈ E ∧ y.iv.key = k:=by
 unfold jBq at h
 exact ⟨List.mem_of_find?_eq_some h,of_decide_eq_true (List.find?_some (p:=fun x : Eb => decide (x.iv.key = k)) h)⟩
theorem kGr (k : ByteArray) (E : List Eb) : jA0 k (E.map Eb.ent) = (jBq k E).map Eb.ent:=by
 unfold jA0 jBq
 rw [List.find?_map]
 rfl
theorem jY0 (k : ByteArray) (E : List Eb) : jEh k (E.map Eb.kv) = (jBq k E).map fun y => (y.blk : Int):=by
 unfold jEh jBq
 rw [List.find?_map,Option.map_map]
 rfl
theorem kJw (k : ByteArray) (E : List Eb) : (jFs k E).map Eb.ent = jEp k (E.map Eb.ent):=by
 unfold jEp jFs
 rw [List.filter_map]
 rfl
theorem kNq (k : ByteArray) (E : List Eb) : (jFs k E).map Eb.kv = jG0 k (E.map Eb.kv):=by
 unfold jG0 jFs
 rw [List.filter_map]
 rfl
theorem jYf {k : ByteArray} {E : List Eb} {y : Eb} : y ∈ jFs k E ↔ y ∈ E ∧ y.iv.key ≠ k:=by simp [jFs]
theorem kJ2 {k : ByteArray} {E : List Eb} (h : jBq k E = none) : jFs k E = E:=by
 unfold jFs
 unfold jBq at h
 rw [List.filter_eq_self]
 rw [List.find?_eq_none] at h
 intro y hy
 simpa using h y hy
theorem ptr_of (k : ByteArray) (E : List Eb) : jJm (jEh k (E.map Eb.kv)) = ptrB (jBq k E):=by
 rw [jY0]
 cases jBq k E with
 | none => rfl
 | some y =>
  show Value.pointer (some ⟨(y.blk : Int).toNat,0,none⟩) = .pointer (some ⟨y.blk,0,none⟩)
  rw [Int.toNat_natCast]
section
variable {n : Nat} {st : Hs} {x : Sx}
theorem Fit.find (f : Fit n st x) (k : ByteArray) : jA0 k st.ents = (jBq k x.E).map Eb.ent:=by rw [f.ents];exact kGr k x.E
theorem Fit.got (f : Fit n st x) (k : ByteArray) : jJm (jEh k x.ts.l) = ptrB (jBq k x.E) ∧ jE3 x.ts k = (jBq k x.E).isSome ∧ jCs st k = (jBq k x.E).isSome:=by
 refine ⟨by rw [f.tab];exact ptr_of k x.E,?_,?_⟩
 ·unfold jE3
  rw [f.tab,jY0,Option.isSome_map]
 ·unfold jCs
  rw [f.find,Option.isSome_map]
theorem Fit.small5 (f : Fit n st x) (_ : n ≤ 4398046511104) : jCj x.ts 5000:=jQv f.small (by decide)
theorem Fit.smallS (f : Fit n st x) (_ : n ≤ 4398046511104) : Small st.slab 10000:=jH4 f.good.nine.2 (by decide)
theorem Fit.lenR (f : Fit n st x) (_ : n ≤ 4398046511104) : (jA3 st.ord).length < maxLen:=by
 have h1:=f.good.len
 have h2:=f.good.nine.1
 have : (901 : Nat) < maxLen:=by decide
 omega
theorem Fit.some (f : Fit n st x) {k : ByteArray} {y : Eb} (h : jBq k x.E = some y) : jA0 k st.ents = some y.ent:=by rw [f.find,h];rfl
theorem Fit.none (f : Fit n st x) {k : ByteArray} (h : jBq k x.E = none) : jA0 k st.ents = none:=by rw [f.find,h];rfl
theorem Fit.ckOk (f : Fit n st x) (_ : n ≤ 4398046511104) {y : Eb} (hy : y ∈ x.E) : jJl y.ck:=by
 have hm : y.ent ∈ st.ents:=by rw [f.ents];exact List.mem_map.2 ⟨y,hy,rfl⟩
 have hin : y.ck ∈ st.slab.inn:=f.good.chunks.mem_iff.1 (List.mem_map.2 ⟨y.ent,hm,rfl⟩)
 obtain ⟨h1,h2,h3,h4⟩:=f.good.slabG.cls y.ck (List.mem_append_left _ hin)
 have h5:=f.good.nine.2.made
 have h6 : st.slab.made.getD y.ck.1.toNat 0 ≤ 9000:=by
  by_cases hk : y.ck.1.toNat < st.slab.made.length
  ·simp only [List.getD,List.getElem?_eq_getElem hk,Option.getD_some]
   exact h5 _ (List.getElem_mem hk)
  ·simp [List.getD,List.getElem?_eq_none (Nat.le_of_not_lt hk)]
 exact ⟨⟨by omega,by omega⟩,⟨by omega,by omega⟩⟩
theorem Fit.valOk (f : Fit n st x) {y : Eb} (hy : y ∈ x.E) : y.iv.val.length ≤ 3000:=f.good.val (e:=y.ent) (by rw [f.ents];exact List.mem_map.2 ⟨y,hy,rfl⟩)
theorem Fit.ivOk (f : Fit n st x) {y : Eb} (hy : y ∈ x.E) : y.iv.ok:=(f.good.cls y.ent (by rw [f.ents];exact List.mem_map.2 ⟨y,hy,rfl⟩)).1
end
theorem jGj {w : World} {y : Eb} (h : w.heap[y.blk]? = some (.cells y.cells 130 (0,0))) : w.rangeAt y.blk 0 (itC y.it).toList ∧ w.cell? ⟨y.blk,10,none⟩ = some (.int .i64 y.ck.1) ∧ w.cell? ⟨y.blk,11,none⟩ = some (.int .i64 y.ck.2) ∧ w.cell? ⟨y.blk,1,none⟩ = some (.slice y.a y.iv.val.length y.c):=by
 refine ⟨fun j v hv => ?_,?_,?_,?_⟩
 ·rw [Nat.zero_add]
  unfold World.cell?
  rw [h]
  show y.cells[j]? = some v
  unfold Eb.cells
  have hj : j < (itC y.it).size:=by
   have:=(List.getElem?_eq_some_iff.1 hv).1
   simpa using this
  rw [Array.getElem?_append_left hj]
  simpa using hv
 ·unfold World.cell?
  rw [h]
  rfl
 ·unfold World.cell?
  rw [h]
  rfl
 ·unfold World.cell?
  rw [h]
  rfl
end
end Go.Proofs.YtkfeafmpaodagaaGreatDoor
