/- The ten cells of an item, in a row or in a block of its own; items that were told. Conditions: none. The document's own shard in memory, in parts; where a key stands among entries. Conditions: none. Rows of the document's own entries that are cut and joined; how the document's own shard turns. Conditions: none. Where a key stands in the document's own shard. Conditions: at most 900 stores. The document's own shard: Remove, drop, Use, Drops. Conditions: at most 900 stores, keys of at most 300 bytes. The document's own shard: Use, Drops, Look, New. Conditions: at most 900 stores, keys of at most 300 bytes. The document's own shard: New. Conditions: none. -/
import Derived.Test.YtkfeafmpaodagaaGreatDoorG28Joined
import Derived.Test.YtkfeafmpaodagaaGreatDoorG30Joined
import Derived.Test.YtkfeafmpaodagaaGreatDoorG31Joined
import Derived.Test.YtkfeafmpaodagaaGreatDoorG29Joined
import Derived.Test.YtkfeafmpaodagaaGreatDoorG20Joined
import Derived.Test.YtkfeafmpaodagaaGreatDoorG00Joined
import Derived.Lib.AppendZeros
import Derived.Deep.QuietTactic
import Derived.BigQuiet
import Derived.Deep.RegionHeldLaw
import Derived.Test.YtkfeafmpaodagaaGreatDoorG25Joined
namespace Go.Proofs.YtkfeafmpaodagaaGreatDoor
set_option maxHeartbeats 16000000
set_option maxRecDepth 100000
section
open Go.RowKit Go.Shelf
abbrev HasM (b o : Nat) (v : Iv) (a : Option Addr) (c : Nat) (w : World) : Prop:=w.cell? ⟨b,o,none⟩ = some (.string v.key) ∧ w.cell? ⟨b,o + 1,none⟩ = some (.slice a v.val.length c) ∧ w.cell? ⟨b,o + 2,none⟩ = some (.int .u32 v.fl) ∧ w.cell? ⟨b,o + 3,none⟩ = some (.int .i64 v.exp) ∧ w.cell? ⟨b,o + 4,none⟩ = some (.int .u64 v.cas) ∧ w.cell? ⟨b,o + 5,none⟩ = some (.int .i64 v.sec) ∧ w.cell? ⟨b,o + 6,none⟩ = some (.int .u64 v.seq) ∧ w.cell? ⟨b,o + 7,none⟩ = some (.bool v.st) ∧ w.cell? ⟨b,o + 8,none⟩ = some (.bool v.won) ∧ w.cell? ⟨b,o + 9,none⟩ = some (.bool v.seen)
abbrev HasB (b : Nat) (v : Iv) (a : Option Addr) (c : Nat) (w : World) : Prop:=w.cell? ⟨b,0,none⟩ = some (.string v.key) ∧ w.cell? ⟨b,1,none⟩ = some (.slice a v.val.length c) ∧ w.cell? ⟨b,2,none⟩ = some (.int .u32 v.fl) ∧ w.cell? ⟨b,3,none⟩ = some (.int .i64 v.exp) ∧ w.cell? ⟨b,4,none⟩ = some (.int .u64 v.cas) ∧ w.cell? ⟨b,5,none⟩ = some (.int .i64 v.sec) ∧ w.cell? ⟨b,6,none⟩ = some (.int .u64 v.seq) ∧ w.cell? ⟨b,7,none⟩ = some (.bool v.st) ∧ w.cell? ⟨b,8,none⟩ = some (.bool v.won) ∧ w.cell? ⟨b,9,none⟩ = some (.bool v.seen)
theorem kOy {w : World} {b o : Nat} {v : Iv} {a : Option Addr} {c : Nat} (h : ∀ (j : Nat) (u : Value),(itC (jAe v a c)).toList[j]? = some u → w.cell? ⟨b,o + j,none⟩ = some u) : HasM b o v a c w :=
 ⟨h 0 _ rfl,h 1 _ rfl,h 2 _ rfl,h 3 _ rfl,h 4 _ rfl,h 5 _ rfl,h 6 _ rfl,h 7 _ rfl,h 8 _ rfl,h 9 _ rfl⟩
theorem jP4 {w : World} {b : Nat} {v : Iv} {a : Option Addr} {c : Nat} {t : TypeId} (h : w.heap[b]? = some (.cells (itC (jAe v a c)) t (0,0))) : HasB b v a c w:=jAk h
theorem jDw {w w' : World} {b o : Nat} {v : Value} (h : w.cell? ⟨b,o,none⟩ = some v) (hg : w.grownBy w' none) : w'.cell? ⟨b,o,none⟩ = some v :=
 ((jDv hg).cell (p:=⟨b,o,none⟩) (World.block_lt_of_cell? w _ h)).trans h
end
section
open Go.RowKit Go.Shelf
set_option maxRecDepth 100000
section
variable {w0 w : World} {l : List jAd} {A A' R : jAd}
theorem Law.takeOut (H : Law w0 w ((jCi l).and R)) (i : Nat) (hi : l[i]? = some A) : Law w0 w (A.and ((jCi (l.set i jAd.emp)).and R)):=by
 have hil : i < l.length:=(List.getElem?_eq_some_iff.1 hi).1
 have at_ : ∀ j B,(l.set i jAd.emp)[j]? = some B → (j = i ∧ B = jAd.emp) ∨ (j ≠ i ∧ l[j]? = some B):=fun j B hj => by
  by_cases e : j = i
  ·subst e
   rw [List.getElem?_set_self hil] at hj
   cases hj
   exact .inl ⟨rfl,rfl⟩
  ·rw [List.getElem?_set_ne (fun e' => e e'.symm)] at hj
   exact .inr ⟨e,hj⟩
 obtain ⟨⟨hq,hd⟩,hR,hLR⟩:=H.q
 refine H.weak (B:=A.and ((jCi (l.set i jAd.emp)).and R)) (fun _ => ⟨hq i A hi,⟨⟨fun j B hj => ?_,fun j m B C hjm hj hm k hB hC => ?_⟩,hR,?_⟩,?_⟩) ?_
 ·rcases at_ j B hj with ⟨_,rfl⟩ | ⟨_,hj⟩
  ·trivial
  ·exact hq j B hj
 ·rcases at_ j B hj with ⟨_,rfl⟩ | ⟨_,hj⟩
  ·exact hB
  ·rcases at_ m C hm with ⟨_,rfl⟩ | ⟨_,hm⟩
   ·exact hC
   ·exact hd j m B C hjm hj hm k hB hC
 ·rintro k ⟨j,B,hj,hk⟩ hr
  rcases at_ j B hj with ⟨_,rfl⟩ | ⟨_,hj⟩
  ·exact hk
  ·exact hLR k ⟨j,B,hj,hk⟩ hr
 ·rintro k hk (⟨j,B,hj,hB⟩ | hr)
  ·rcases at_ j B hj with ⟨_,rfl⟩ | ⟨hne,hj⟩
   ·exact hB
   ·exact hd i j A B (fun e => hne e.symm) hi hj k hk hB
  ·exact hLR k ⟨i,A,hi,hk⟩ hr
 ·rintro k (hk | ⟨j,B,hj,hB⟩ | hr)
  ·exact .inl ⟨i,A,hi,hk⟩
  ·rcases at_ j B hj with ⟨_,rfl⟩ | ⟨_,hj⟩
   ·exact hB.elim
   ·exact .inl ⟨j,B,hj,hB⟩
  ·exact .inr hr
theorem Law.putBack (i : Nat) (hil : i < l.length) (H : Law w0 w (A'.and ((jCi (l.set i jAd.emp)).and R))) : Law w0 w ((jCi (l.set i A')).and R):=by
 have at_ : ∀ j B,(l.set i A')[j]? = some B → (j = i ∧ B = A') ∨ (j ≠ i ∧ (l.set i jAd.emp)[j]? = some B):=fun j B hj => by
  by_cases e : j = i
  ·subst e
   rw [List.getElem?_set_self hil] at hj
   cases hj
   exact .inl ⟨rfl,rfl⟩
  ·rw [List.getElem?_set_ne (fun e' => e e'.symm)] at hj
   exact .inr ⟨e,by rw [List.getElem?_set_ne (fun e' => e e'.symm)];exact hj⟩
 obtain ⟨hA,⟨⟨hq,hd⟩,hR,hLR⟩,hx⟩:=H.q
 refine H.weak (B:=(jCi (l.set i A')).and R) (fun _ => ⟨⟨fun j B hj => ?_,fun j m B C hjm hj hm k hB hC => ?_⟩,hR,?_⟩) ?_
 ·rcases at_ j B hj with ⟨_,rfl⟩ | ⟨_,hj⟩
  ·exact hA
  ·exact hq j B hj
 ·rcases at_ j B hj with ⟨rfl,rfl⟩ | ⟨_,hj2⟩
  ·rcases at_ m C hm with ⟨rfl,_⟩ | ⟨_,hm2⟩
   ·exact hjm rfl
   ·exact hx k hB (.inl ⟨m,C,hm2,hC⟩)
  ·rcases at_ m C hm with ⟨_,hCA⟩ | ⟨_,hm2⟩
   ·exact hx k (hCA ▸ hC) (.inl ⟨j,B,hj2,hB⟩)
   ·exact hd j m B C hjm hj2 hm2 k hB hC
 ·rintro k ⟨j,B,hj,hk⟩ hr
  rcases at_ j B hj with ⟨_,rfl⟩ | ⟨_,hj⟩
  ·exact hx k hk (.inr hr)
  ·exact hLR k ⟨j,B,hj,hk⟩ hr
 ·rintro k (⟨j,B,hj,hk⟩ | hr)
  ·rcases at_ j B hj with ⟨_,rfl⟩ | ⟨_,hj⟩
   ·exact .inl hk
   ·exact .inr (.inl ⟨j,B,hj,hk⟩)
  ·exact .inr (.inr hr)
theorem Law.at (H : Law w0 w ((jCi l).and R)) (i : Nat) (hi : l[i]? = some A) : A.q w:=H.q.1.1 i A hi
end
structure Re where
 t : jFf
 ck : Ck
def Re.ent (e : Re) : Ent:=(e.t.iv,e.ck)
def Re.cells (e : Re) : List Value:=(itC e.t.it).toList ++ [.int .i64 e.ck.1,.int .i64 e.ck.2]
def jAv (l : List Re) : List Value:=l.flatMap Re.cells
theorem jK5 (e : Re) : e.cells.length = 12:=rfl
theorem jK0 : ∀ l : List Re,(jAv l).length = l.length * 12
 | [] => rfl
 | e :: l => by
  show (e.cells ++ jAv l).length = _
  rw [List.length_append,jK0 l,jK5,List.length_cons]
  omega
theorem jHx (l m : List Re) : jAv (l ++ m) = jAv l ++ jAv m:=by simp [jAv]
theorem kE9 (e : Re) : jAv [e] = e.cells:=by simp [jAv]
theorem jSy : ∀ (l : List Re) (k : Nat),(jAv l).take (k * 12) = jAv (l.take k)
 | [],k => by simp [jAv]
 | e :: l,0 => by simp [jAv]
 | e :: l,k + 1 => by
  show (e.cells ++ jAv l).take ((k + 1) * 12) = e.cells ++ jAv (l.take k)
  rw [List.take_append,jK5,show (k + 1) * 12 - 12 = k * 12 by omega,jSy l k,List.take_of_length_le (by rw [jK5];omega)]
theorem jNm : ∀ (l : List Re) (k : Nat),(jAv l).drop (k * 12) = jAv (l.drop k)
 | [],k => by simp [jAv]
 | e :: l,0 => by simp
 | e :: l,k + 1 => by
  show (e.cells ++ jAv l).drop ((k + 1) * 12) = jAv (l.drop k)
  rw [List.drop_append,jK5,show (k + 1) * 12 - 12 = k * 12 by omega,jNm l k,List.drop_of_length_le (by rw [jK5];omega),List.nil_append]
theorem kEy {l : List Re} {k : Nat} {e : Re} (h : l[k]? = some e) (j : Nat) (hj : j < 12) : (jAv l)[k * 12 + j]? = e.cells[j]?:=by
 have h1 : (jAv l)[k * 12 + j]? = ((jAv l).drop (k * 12))[j]?:=by rw [List.getElem?_drop]
 rw [h1,jNm]
 obtain ⟨hk,he⟩:=List.getElem?_eq_some_iff.1 h
 rw [List.drop_eq_getElem_cons hk,he]
 show (e.cells ++ jAv (l.drop (k + 1)))[j]? = _
 rw [List.getElem?_append_left (by rw [jK5];exact hj)]
theorem re_row {w : World} {n0 n cap g k : Nat} {l : List Re} {e : Re} (h : w.ownsRow n0 94 12 (.slice (some ⟨g,0,none⟩) n cap) n (jAv l)) (hn : l.length = n) (hk : l[k]? = some e) : ∀ (j : Nat) (v : Value),e.cells[j]? = some v → w.cell? ⟨g,k * 12 + j,none⟩ = some v:=by
 intro j v hv
 have hj : j < 12:=by have:=(List.getElem?_eq_some_iff.1 hv).1;rwa [jK5] at this
 have hkl:=(List.getElem?_eq_some_iff.1 hk).1
 rw [h.cellAt (k * 12 + j) (by omega),kEy hk j hj,hv]
def jPe (n0 h : Nat) (st : Sb) (vi vg : Value) (gm : Nat) : jAd:=⟨jD9 h gm vi vg,fun w => RSl n0 w h st vi vg gm,fun _ _ H hs => H.same hs⟩
def jNi (n0 h c kc g sd : Nat) (j : Js) (v : Value) : jAd:=⟨jMg h c kc g v,fun w => RJ n0 w h c kc g sd j v,fun _ _ H hs => H.same hs⟩
structure Rp where
 sp : Nat
 op : Nat
 jp : Nat
 vL : Value
 vD : Value
 es : List Re
 vi : Value
 vg : Value
 gm : Nat
 vt : Value
 vs : Value
 c : Nat
 kc : Nat
 g : Nat
 v : Value
def jKr (P : Rp) : Array Value:=#[P.vL,.pointer (some ⟨P.sp,0,none⟩),.pointer (some ⟨P.op,0,none⟩),.pointer (some ⟨P.jp,0,none⟩),P.vD]
def jIv (n0 r sd : Nat) (P : Rp) (st : Hs) : List jAd :=
 [jAn r (.cells (jKr P) 72),jB2 n0 94 12 P.vL P.es.length (jAv P.es),jIl (P.es.map Re.t),jPe n0 P.sp st.slab P.vi P.vg P.gm,jEv n0 P.op st.ord P.vt P.vs,jNi n0 P.jp P.c P.kc P.g sd st.jd P.v,jB2 n0 9 1 P.vD st.drops.length (jB6 st.drops)]
structure jAc (w0 w : World) (r sd : Nat) (P : Rp) (st : Hs) (R : jAd) : Prop where
 law : Law w0 w ((jCi (jIv w0.heap.size r sd P st)).and R)
 ents : P.es.map Re.ent = st.ents
section
variable {w0 w w' : World} {r sd : Nat} {P : Rp} {st : Hs} {R R' : jAd}
theorem jAc.step (H : jAc w0 w r sd P st R) (hg : w.grownBy w' none) : jAc w0 w' r sd P st R:=⟨H.law.step hg,H.ents⟩
theorem jAc.drewN (H : jAc w0 w r sd P st R) (n : Nat) : jAc w0 (w.drewN n) r sd P st R:=⟨H.law.drewN n,H.ents⟩
theorem jAc.drew (H : jAc w0 w r sd P st R) : jAc w0 w.drew r sd P st R:=⟨H.law.drew,H.ents⟩
theorem jAc.head (H : jAc w0 w r sd P st R) : w.heap[r]? = some (.cells (jKr P) 72 (0,0)):=H.law.at 0 rfl
theorem jAc.row (H : jAc w0 w r sd P st R) : w.ownsRow w0.heap.size 94 12 P.vL P.es.length (jAv P.es):=H.law.at (A:=jB2 w0.heap.size 94 12 P.vL P.es.length (jAv P.es)) 1 rfl
theorem jAc.tale (H : jAc w0 w r sd P st R) {k : Nat} {e : Re} (he : P.es[k]? = some e) : Bs w e.t.a e.t.iv.val.length e.t.c (jA6 e.t.iv.val) :=
 jDi.bs (H.law.at (A:=jIl (P.es.map Re.t)) 2 rfl e.t (List.mem_map.2 ⟨e,List.mem_of_getElem? he,rfl⟩))
theorem jAc.slab (H : jAc w0 w r sd P st R) : RSl w0.heap.size w P.sp st.slab P.vi P.vg P.gm:=H.law.at (A:=jPe w0.heap.size P.sp st.slab P.vi P.vg P.gm) 3 rfl
theorem jAc.judge (H : jAc w0 w r sd P st R) : RJ w0.heap.size w P.jp P.c P.kc P.g sd st.jd P.v:=H.law.at (A:=jNi w0.heap.size P.jp P.c P.kc P.g sd st.jd P.v) 5 rfl
theorem jAc.drops (H : jAc w0 w r sd P st R) : w.ownsRow w0.heap.size 9 1 P.vD st.drops.length (jB6 st.drops):=H.law.at (A:=jB2 w0.heap.size 9 1 P.vD st.drops.length (jB6 st.drops)) 6 rfl
theorem jAc.cells (H : jAc w0 w r sd P st R) : w.cell? ⟨r,0,none⟩ = some P.vL ∧ w.cell? ⟨r,1,none⟩ = some (.pointer (some ⟨P.sp,0,none⟩)) ∧ w.cell? ⟨r,2,none⟩ = some (.pointer (some ⟨P.op,0,none⟩)) ∧ w.cell? ⟨r,3,none⟩ = some (.pointer (some ⟨P.jp,0,none⟩)) ∧ w.cell? ⟨r,4,none⟩ = some P.vD:=by
 have h:=H.head
 simp [World.cell?,h,jKr]
theorem jAc.len (H : jAc w0 w r sd P st R) : P.es.length = st.ents.length:=by rw [← H.ents,List.length_map]
end
def jDx (k : ByteArray) (l : List Ent) : Nat:=(l.filter fun e => ltK e.1.key k).length
theorem jPj {l : List Ent} (h : jA9 l) (k : ByteArray) : l = (l.filter fun e => ltK e.1.key k) ++ (l.filter fun e => !ltK e.1.key k):=by
 induction l with
 | nil => rfl
 | cons x l ih =>
  have h':=List.pairwise_cons.1 h
  by_cases hx : ltK x.1.key k = true
  ·rw [List.filter_cons,List.filter_cons,if_pos hx,if_neg (by simp [hx])]
   exact congrArg (x :: ·) (ih h'.2)
  ·have hall : ∀ y ∈ l,ltK y.1.key k = false:=fun y hy => by
    cases hy' : ltK y.1.key k with
    | false => rfl
    | true => exact absurd (jHv (h'.1 y hy) hy') hx
   have hn : l.filter (fun e => ltK e.1.key k) = []:=by
    rw [List.filter_eq_nil_iff]
    intro y hy
    rw [hall y hy]
    simp
   have hf : l.filter (fun e => !ltK e.1.key k) = l:=by
    rw [List.filter_eq_self]
    intro y hy
    rw [hall y hy]
    rfl
   rw [List.filter_cons,List.filter_cons,if_neg hx,if_pos (by simp [hx]),hn,hf]
   rfl
theorem jX9 {l : List Ent} (h : jA9 l) (k : ByteArray) : l.take (jDx k l) = l.filter (fun e => ltK e.1.key k):=by
 conv => lhs;arg 2;rw [jPj h k]
 exact List.take_left' rfl
theorem jRf {l : List Ent} (h : jA9 l) (k : ByteArray) : l.drop (jDx k l) = l.filter (fun e => !ltK e.1.key k):=by
 conv => lhs;arg 2;rw [jPj h k]
 exact List.drop_left' rfl
theorem jY2 (k : ByteArray) (l : List Ent) : jDx k l ≤ l.length:=List.length_filter_le _ _
end
section
open Go.RowKit Go.Shelf
set_option maxRecDepth 100000
theorem kMy : (Tryz.prog.info? 94).map (fun i => (i.zero,i.size,i.bytes)) = some (some (.agg #[.string ⟨#[]⟩,.slice none 0 0,.int .u32 0,.int .i64 0,.int .u64 0,.int .i64 0,.int .u64 0,.bool false,.bool false,.bool false,.int .i64 0,.int .i64 0]),12,104):=by kernel_rfl
def jK6 (w : World) (u : Value) (l : List Re) : Prop:=∃ a cap,u = .slice a l.length cap ∧ ((l = [] ∧ (a = none → cap = 0)) ∨ ∃ b off,a = some ⟨b,off,none⟩ ∧ w.rangeAt b off (jAv l))
theorem jLi {w : World} {n0 : Nat} {v : Value} {l : List Re} (h : w.ownsRow n0 94 12 v l.length (jAv l)) : jK6 w v l:=by
 rcases h.2 with ⟨rfl,h0⟩ | ⟨g,cap,cur,rfl,hg,hh,r⟩
 ·exact ⟨none,0,by rw [h0],.inl ⟨List.length_eq_zero_iff.1 h0,fun _ => rfl⟩⟩
 ·refine ⟨_,cap,rfl,.inr ⟨g,0,rfl,fun j v hv => ?_⟩⟩
  have hj:=(List.getElem?_eq_some_iff.1 hv).1
  rw [jK0] at hj
  rw [Nat.zero_add,h.cellAt j hj,hv]
theorem jPs {w0 : World} {n0 : Nat} {v : Value} {l : List Re} (h : w0.ownsRow n0 94 12 v l.length (jAv l)) (k : Nat) (hk : k ≤ l.length) :
  ∃ u,(∀ w : World,(Instr.sliceAt 70 v none (some (.int .i64 k)) none).run Tryz.prog w = .ok u w) ∧ ∀ w : World,jK6 w v l → jK6 w u (l.take k):=by
 obtain ⟨a,cap,rfl⟩:=jAr h
 obtain ⟨h1,h2⟩:=jGe h
 have hkc : k ≤ cap:=Nat.le_trans hk h1
 have hki : (k : Int) ≤ (cap : Int):=by omega
 refine ⟨.slice a k cap,fun w => ?_,fun w hw => ?_⟩
 ·go_simp
 ·obtain ⟨a',cap',e,hw⟩:=hw
  cases e
  refine ⟨a,cap,by rw [List.length_take,Nat.min_eq_left hk],?_⟩
  rcases hw with ⟨rfl,hc⟩ | ⟨b,off,rfl,hr⟩
  ·exact .inl ⟨by simp,hc⟩
  ·refine .inr ⟨b,off,rfl,fun j v hv => ?_⟩
   rw [← jSy,List.getElem?_take] at hv
   split at hv
   ·exact hr j v hv
   ·cases hv
theorem jQo {w0 : World} {n0 : Nat} {v : Value} {l : List Re} (h : w0.ownsRow n0 94 12 v l.length (jAv l)) (k : Nat) (hk : k ≤ l.length) :
  ∃ u,(∀ w : World,(Instr.sliceAt 70 v (some (.int .i64 k)) none none).run Tryz.prog w = .ok u w) ∧ ∀ w : World,jK6 w v l → jK6 w u (l.drop k):=by
 rcases h.2 with ⟨rfl,h0⟩ | ⟨g,cap,cur,rfl,hg,hh,h1,h2,r⟩
 ·have hl : l = []:=List.length_eq_zero_iff.1 h0
  subst hl
  obtain rfl : k = 0:=by simpa using hk
  refine ⟨.slice none 0 0,fun w => ?_,fun w hw => hw⟩
  go_simp
 ·have hki : (k : Int) ≤ (l.length : Int):=by omega
  refine ⟨.slice (if cap = k then some ⟨g,0,none⟩ else some ⟨g,k * 12,none⟩) (l.length - k) (cap - k),fun w => ?_,fun w hw => ?_⟩
  ·by_cases e : cap = k
   ·subst e
    go_simp
   ·go_simp
  ·obtain ⟨a0,cap0,e,hw⟩:=hw
   cases e
   refine ⟨_,cap - k,by rw [List.length_drop],?_⟩
   by_cases hkl : k = l.length
   ·refine .inl ⟨by rw [hkl];simp,fun e => ?_⟩
    split at e <;> cases e
   ·rcases hw with ⟨rfl,hc⟩ | ⟨b,off,e,hr⟩
    ·exact .inl ⟨by simp,fun e => by split at e <;> cases e⟩
    ·cases e
     refine .inr ⟨g,k * 12,by rw [if_neg (by omega)],fun j v hv => ?_⟩
     rw [← jNm,List.getElem?_drop] at hv
     have:=hr _ v hv
     rw [Nat.zero_add] at this
     exact this
theorem re_one (e : Re) : ∀ u ∈ e.cells,u.oneCell' = true:=by
 intro u hu
 simp [Re.cells,itC,jFf.it,jAe] at hu
 rcases hu with rfl | rfl | rfl | rfl | rfl | rfl | rfl | rfl | rfl | rfl | rfl | rfl <;> rfl
theorem kCi (l : List Re) : ∀ u ∈ jAv l,u.oneCell' = true:=by
 intro u hu
 unfold jAv at hu
 rw [List.mem_flatMap] at hu
 obtain ⟨e,_,hu⟩:=hu
 exact re_one e u hu
theorem jS9 (w : World) (base : Nat) (ty : TypeId) {v x : Value} {n : Nat} {xs : List Value} {ys : List Re} (hown : w.ownsRow base 94 12 v n xs) (hx : jK6 w x ys) (hn : n + ys.length ≤ 20000) (hb : base ≤ w.heap.size) :
  ∃ v' w',(Builtin.append_ #[70,70] ty #[v,x]).run Tryz.prog w = .ok v' w' ∧ w'.ownsRow base 94 12 v' (n + ys.length) (xs ++ jAv ys) ∧ w.grownBy w' v.ownBlock ∧ (v'.ownBlock = v.ownBlock ∨ v'.ownBlock = some w.heap.size):=by
 obtain ⟨i0,hi,hz0,hz1,hz2⟩:=info_parts kMy
 obtain ⟨a,cap,rfl,hw⟩:=hx
 cases a with
 | none =>
  obtain ⟨rfl,hc⟩ : ys = [] ∧ cap = 0:=by
   rcases hw with ⟨h1,h2⟩ | ⟨b,off,e,_⟩
   ·exact ⟨h1,h2 rfl⟩
   ·cases e
  subst hc
  refine ⟨v,w,run_append_owned_none w base 70 ty 94 i0 12 Tryz.underlying70 hi v n xs hown,?_,jDg _ _,.inl rfl⟩
  simpa [jAv] using hown
 | some ad =>
  have hnews : ∀ (j : Nat) (u : Value),(jAv ys)[j]? = some u → w.cell? (ad.add j) = some u:=by
   intro j u hu
   rcases hw with ⟨rfl,_⟩ | ⟨b,off,e,hr⟩
   ·simp [jAv] at hu
   ·cases e
    rw [jPk]
    exact hr j u hu
  obtain ⟨v',w',q1,q2,q3,_,q5⟩:=run_append_own_at (P:=Tryz.prog) w base 70 ty 94 i0 _ 12 104 Tryz.underlying70 hi hz0 hz1 hz2 rfl (by decide) v n xs hown ad ys.length cap (jAv ys) (jK0 ys) hnews (kCi ys) (by unfold maxLen;omega) (by omega) hb
  exact ⟨v',w',q1,q2,q3,q5⟩
theorem jEe {w : World} {ops : Array Oper} {rest : List Oper} {o : Oper} {a : Act} {Q : Exit → Act → World → Prop} (hgd : o.guard = none) (s x : Operand) (ho : o.op = .call { callee:=.builtin .append,args:=#[s,x],argTypes:=#[70,70] })
  (base : Nat) (v : Value) (n : Nat) (xs : List Value) (hs : a.eval s = v) (hown : w.ownsRow base 94 12 v n xs) (u : Value) (ys : List Re) (hx : a.eval x = u) (hr : jK6 w u ys) (hn : n + ys.length ≤ 20000) (hb : base ≤ w.heap.size)
  (h : ∀ v' w',w'.ownsRow base 94 12 v' (n + ys.length) (xs ++ jAv ys) → w.grownBy w' v.ownBlock → (v'.ownBlock = v.ownBlock ∨ v'.ownBlock = some w.heap.size) → wpList Tryz.prog ops Q rest (a.put o.dst v') w') :
  wpList Tryz.prog ops Q (o :: rest) a w:=by
 refine wpList_plain hgd fun K hK => ?_
 obtain ⟨v',w',hr,h2,h3,h5⟩:=jS9 w base o.type hown hr hn hb
 unfold Oper.wp execOp
 simp only [ho,resolve,invoke,builtin,Sem.run_bind,Sem.run_pure,Result.andThen_ok,List.map_toArray,List.map_cons,List.map_nil,hs,hx,hr]
 exact hK _ _ (h v' w' h2 h3 h5)
section
variable {w0 w w' : World} {r sd : Nat} {P : Rp} {st : Hs} {R A : jAd}
theorem jAc.slabTurn (H : jAc w0 w r sd P st R) {sl : Sb} {vi vg : Value} (h : RSl w0.heap.size w' P.sp sl vi vg P.gm) (hg : Gr (jD9 P.sp P.gm P.vi P.vg) w w') (hgr : ∀ k,jD9 P.sp P.gm vi vg k → jD9 P.sp P.gm P.vi P.vg k ∨ w.heap.size ≤ k) :
  jAc w0 w' r sd { P with vi:=vi,vg:=vg } { st with slab:=sl } R :=
 ⟨Law.putBack (l:=jIv w0.heap.size r sd P st) 3 (by show 3 < 7;decide) ((H.law.takeOut (A:=jPe w0.heap.size P.sp st.slab P.vi P.vg P.gm) 3 rfl).turn (A':=jPe w0.heap.size P.sp sl vi vg P.gm) h (fun k hk => h.lt k hk) hg hgr),H.ents⟩
theorem jAc.judgeTurn (H : jAc w0 w r sd P st R) {jd : Js} {v : Value} (h : RJ w0.heap.size w' P.jp P.c P.kc P.g sd jd v) (hg : Gr (jMg P.jp P.c P.kc P.g P.v) w w') (hgr : ∀ k,v.ownBlock = some k → P.v.ownBlock = some k ∨ w.heap.size ≤ k) :
  jAc w0 w' r sd { P with v:=v } { st with jd:=jd } R :=
 ⟨Law.putBack (l:=jIv w0.heap.size r sd P st) 5 (by show 5 < 7;decide) ((H.law.takeOut (A:=jNi w0.heap.size P.jp P.c P.kc P.g sd st.jd P.v) 5 rfl).turn (A':=jNi w0.heap.size P.jp P.c P.kc P.g sd jd v) h (fun k hk => h.lt k hk) hg (fun k hk => by
  rcases hk with hk | hk | hk | hk | hk
  ·exact .inl (.inl hk)
  ·exact .inl (.inr (.inl hk))
  ·exact .inl (.inr (.inr (.inl hk)))
  ·exact .inl (.inr (.inr (.inr (.inl hk))))
  ·exact (hgr k hk).imp (fun h => .inr (.inr (.inr (.inr h)))) id)),H.ents⟩
abbrev kB2 (n0 r sd : Nat) (P : Rp) (st : Hs) (R : jAd) : jAd:=(jCi ((jIv n0 r sd P st).set 4 jAd.emp)).and R
theorem jAc.listOut (H : jAc w0 w r sd P st R) : Law w0 w ((jEv w0.heap.size P.op st.ord P.vt P.vs).and (kB2 w0.heap.size r sd P st R)):=H.law.takeOut 4 rfl
theorem jAc.listBack (h : P.es.map Re.ent = st.ents) {ord : Sr} {vt vs : Value} (H : Law w0 w ((jEv w0.heap.size P.op ord vt vs).and (kB2 w0.heap.size r sd P st R))) : jAc w0 w r sd { P with vt:=vt,vs:=vs } { st with ord:=ord } R :=
 ⟨Law.putBack (l:=jIv w0.heap.size r sd P st) 4 (by show 4 < 7;decide) H,h⟩
theorem Law.merge {A B C : jAd} (H : Law w0 w (A.and (B.and R))) (hq : A.q w → B.q w → C.q w) (ho : ∀ k,C.own k → A.own k ∨ B.own k) : Law w0 w (C.and R) :=
 H.unassoc.weak1 (fun h => hq h.1 h.2.1) fun k hk => ho k hk
theorem jAc.rowNew {v2 : Value} {es2 : List Re} (N : Law w0 w ((jB2 w0.heap.size 94 12 v2 es2.length (jAv es2)).and (A.and ((jCi (jIv w0.heap.size r sd P st)).and R))))
  (ht : ∀ e ∈ es2,(e ∈ P.es) ∨ ((∀ W,A.q W → (jIs e.t).q W) ∧ ∀ k,(jIs e.t).own k → A.own k)) :
  w.cell? ⟨r,0,none⟩ = some P.vL ∧ w.frozen? ⟨r,0,none⟩ = false ∧ jAc w0 (w.setCell ⟨r,0,none⟩ v2) r sd { P with vL:=v2,es:=es2 } { st with ents:=es2.map Re.ent } R:=by
 have N1:=N.rin.rot
 have hh : w.heap[r]? = some (.cells (jKr P) 72 (0,0)):=N1.at 0 rfl
 refine ⟨by simp [World.cell?,hh,jKr],frozen_of_row _ _ _ _ _ hh,?_,rfl⟩
 have N2:=(N1.takeOut (A:=jB2 w0.heap.size 94 12 P.vL P.es.length (jAv P.es)) 1 rfl).right.rot
 have N3:=Law.putBack (l:=jIv w0.heap.size r sd P st) 1 (by show 1 < 7;decide) N2
 have N4:=(N3.takeOut (A:=jAn r (.cells (jKr P) 72)) 0 rfl).setAt 0 v2
 have N5:=Law.putBack 0 (by show 0 < 7;decide) N4
 have N6:=(N5.takeOut (A:=jIl (P.es.map Re.t)) 2 rfl).rin.merge (C:=jIl (es2.map Re.t)) (fun h1 h2 x hx => ?_) (fun k hk => ?_)
 ·exact Law.putBack 2 (by show 2 < 7;decide) N6
 ·obtain ⟨e,he,rfl⟩:=List.mem_map.1 hx
  rcases ht e he with h | h
  ·exact h1 e.t (List.mem_map.2 ⟨e,h,rfl⟩)
  ·exact h.1 _ h2
 ·obtain ⟨x,hx,hk⟩:=hk
  obtain ⟨e,he,rfl⟩:=List.mem_map.1 hx
  rcases ht e he with h | h
  ·exact .inl ⟨e.t,List.mem_map.2 ⟨e,h,rfl⟩,hk⟩
  ·exact .inr (h.2 k hk)
theorem jAc.dropNew {v2 : Value} {ds : List ByteArray} (N : Law w0 w ((jB2 w0.heap.size 9 1 v2 ds.length (jB6 ds)).and ((jCi ((jIv w0.heap.size r sd P st).set 6 jAd.emp)).and R))) :
  w.cell? ⟨r,4,none⟩ = some P.vD ∧ w.frozen? ⟨r,4,none⟩ = false ∧ Law w0 (w.setCell ⟨r,4,none⟩ v2) ((jCi (jIv w0.heap.size r sd { P with vD:=v2 } { st with drops:=ds })).and R):=by
 have N1:=Law.putBack (l:=jIv w0.heap.size r sd P st) 6 (by show 6 < 7;decide) N
 have hh : w.heap[r]? = some (.cells (jKr P) 72 (0,0)):=N1.at 0 rfl
 refine ⟨by simp [World.cell?,hh,jKr],frozen_of_row _ _ _ _ _ hh,?_⟩
 exact Law.putBack 0 (by show 0 < 7;decide) ((N1.takeOut (A:=jAn r (.cells (jKr P) 72)) 0 rfl).setAt 4 v2)
end
end
section
open Go.RowKit Go.Shelf
theorem jUi : ∀ l m : List UInt8,Op.bytesLess l m = ltB l m
 | _,[] => by cases ‹List UInt8› <;> rfl
 | [],_ :: _ => rfl
 | a :: l,c :: m => by
  unfold Op.bytesLess ltB
  rw [jUi l m]
  by_cases h1 : a < c
  ·simp [h1]
  ·by_cases h2 : c < a
   ·have : a ≠ c:=fun e => by subst e;exact h1 h2
    simp [h1,h2,this]
   ·have : a = c:=UInt8.le_antisymm (UInt8.not_lt.1 h2) (UInt8.not_lt.1 h1)
    subst this
    simp [h1]
theorem jVc (a c : ByteArray) : Op.bytesLess a.toList c.toList = ltK a c:=by
 rw [ByteArray.toList_eq,ByteArray.toList_eq]
 exact jUi _ _
theorem kKn {l : List Ent} (h : jA9 l) {k : ByteArray} {j : Nat} (hj : j < jDx k l) : ∃ e,l[j]? = some e ∧ ltK e.1.key k = true:=by
 have h1:=jX9 h k
 have hjl : j < l.length:=Nat.lt_of_lt_of_le hj (jY2 k l)
 have h2 : l[j] ∈ l.take (jDx k l):=by
  rw [List.mem_iff_getElem?]
  exact ⟨j,by rw [List.getElem?_take,if_pos hj];exact List.getElem?_eq_getElem hjl⟩
 rw [h1,List.mem_filter] at h2
 exact ⟨l[j],List.getElem?_eq_getElem hjl,h2.2⟩
theorem jZe {l : List Ent} (h : jA9 l) {k : ByteArray} {e : Ent} (he : l[jDx k l]? = some e) : ltK e.1.key k = false:=by
 have h1 : e ∈ l.drop (jDx k l):=by
  rw [List.mem_iff_getElem?]
  exact ⟨0,by rw [List.getElem?_drop,Nat.add_zero];exact he⟩
 rw [jRf h,List.mem_filter] at h1
 simpa using h1.2
theorem jFz {l : List Ent} (h : jA9 l) {k : ByteArray} {y : Ent} (hf : jA0 k l = some y) : l[jDx k l]? = some y:=by
 obtain ⟨hm,hk⟩:=jBs hf
 have h1 : y ∈ l.drop (jDx k l):=by
  rw [jRf h,List.mem_filter]
  exact ⟨hm,by rw [hk,jH7];rfl⟩
 cases hd : l.drop (jDx k l) with
 | nil => rw [hd] at h1;cases h1
 | cons z t =>
  have h0 : l[jDx k l]? = some z:=by
   have:=List.getElem?_drop (xs:=l) (i:=jDx k l) (j:=0)
   rw [hd,Nat.add_zero] at this
   exact this.symm
  rw [hd] at h1
  rcases List.mem_cons.1 h1 with rfl | h1
  ·exact h0
  ·have hr : jA9 (z :: t):=by rw [← hd];exact h.sublist (List.drop_sublist _ _)
   have h2:=(List.pairwise_cons.1 hr).1 y h1
   rw [hk] at h2
   have h3:=jZe h h0
   rw [h2] at h3
   cases h3
section
variable {w0 w : World} {r sd n : Nat} {P : Rp} {st : Hs} {R : jAd}
theorem jAc.slice (H : jAc w0 w r sd P st R) {N : Nat} (hN : P.es.length = N) : ∃ pa cap,P.vL = .slice pa N cap ∧ N ≤ cap ∧ cap ≤ maxLen:=by
 have h:=H.row
 rw [hN] at h
 obtain ⟨a,cap,e⟩:=jAr h
 rw [e] at h
 exact ⟨a,cap,e,jGe h⟩
theorem jAc.reAt (H : jAc w0 w r sd P st R) {N cap : Nat} {pa : Option Addr} (hN : P.es.length = N) (hv : P.vL = .slice pa N cap) {k : Nat} {e : Re} (he : P.es[k]? = some e) : ∃ g,pa = some ⟨g,0,none⟩ ∧ ∀ (j : Nat) (v : Value),e.cells[j]? = some v → w.cell? ⟨g,k * 12 + j,none⟩ = some v:=by
 have h:=H.row
 have hk:=(List.getElem?_eq_some_iff.1 he).1
 rw [hN,hv] at h
 obtain ⟨g,cap',e'⟩:=jCk h (by omega)
 cases e'
 exact ⟨g,rfl,re_row h hN he⟩
theorem jAc.get (H : jAc w0 w r sd P st R) {k : Nat} {y : Ent} (hy : st.ents[k]? = some y) : ∃ e,P.es[k]? = some e ∧ e.ent = y:=by
 rw [← H.ents,List.getElem?_map] at hy
 cases he : P.es[k]? with
 | none => rw [he] at hy;cases hy
 | some e => rw [he] at hy;exact ⟨e,rfl,Option.some.inj hy⟩
theorem jCb (H : jAc w0 w r sd P st R) (hg : jAo n st) (hn : n ≤ 900) (key : ByteArray) (q : Bool) (hq : jCs st key = q) (m : Nat) (hm : jDx key st.ents = m) :
  Calls Tryz.prog 67 #[.pointer (some ⟨r,0,none⟩),.string key] w fun e w' => e = .returned (.tuple #[.int .i64 (m : Nat),.bool q]) ∧ w.grownBy w' none:=by
 obtain ⟨N,hN⟩ : ∃ N,P.es.length = N:=⟨_,rfl⟩
 have hNl : st.ents.length = N:=by rw [← H.len];exact hN
 have hN9 : N ≤ 900:=by have:=hg.len.1;omega
 obtain ⟨pa,cap,hv,hc1,hc2⟩:=H.slice hN
 have c0:=H.cells.1
 rw [hv] at c0
 have hmN : m ≤ N:=by rw [← hm,← hNl];exact jY2 _ _
 go_enter Tryz.func67,Tryz.ntmps67
 go_wp2
 go_loopw [6] (fun i wr => ∃ k : Nat,k ≤ m ∧ i = .int .i64 k ∧ wr = w) (fun i _ => N - (intOf i).toNat)
 case atStart => exact ⟨0,Nat.zero_le _,rfl,rfl⟩
 case round =>
  obtain ⟨k,hk,rfl,rfl⟩:=hrel
  by_cases hlt : k < m
  ·obtain ⟨y,hy,hly⟩:=kKn hg.rise (k:=key) (j:=k) (by omega)
   obtain ⟨e,he,hey⟩:=H.get hy
   obtain ⟨g,rfl,hcs⟩:=H.reAt hN hv he
   have c1 : wr.cell? ⟨g,k * 12,none⟩ = some (.string e.t.iv.key):=hcs 0 _ rfl
   have hb : Op.bytesLess e.t.iv.key.toList key.toList = true:=(jVc _ _).trans (by rw [← hey] at hly;exact hly)
   have hki : (k : Int) < (N : Int):=by omega
   clear hy hly he hey hcs hv H
   go_wp2
   go_roundw
   case rel => exact ⟨k + 1,hlt,by go_num,by first | trivial | rfl⟩
   case measure => simp [intOf];omega
  ·obtain rfl : k = m:=by omega
   by_cases hkN : k < N
   ·have hki : (k : Int) < (N : Int):=by omega
    have hd : decide ((k : Int) < (N : Int)) = true:=decide_eq_true hki
    obtain ⟨y,hy⟩ : ∃ y,st.ents[k]? = some y:=⟨_,List.getElem?_eq_getElem (by omega)⟩
    obtain ⟨e,he,hey⟩:=H.get hy
    obtain ⟨g,rfl,hcs⟩:=H.reAt hN hv he
    have c1 : wr.cell? ⟨g,k * 12,none⟩ = some (.string e.t.iv.key):=hcs 0 _ rfl
    have hly:=jZe hg.rise (k:=key) (by rw [hm];exact hy)
    have hb : Op.bytesLess e.t.iv.key.toList key.toList = false:=(jVc _ _).trans (by rw [← hey] at hly;exact hly)
    by_cases hkey : e.t.iv.key = key
    ·have hq1 : q = true:=by
      rw [← hq]
      unfold jCs
      have : jA0 y.1.key st.ents = some y:=jMp hg.rise (List.mem_of_getElem? hy)
      rw [← hey] at this
      have h2 : e.ent.1.key = key:=hkey
      rw [h2] at this
      rw [this]
      rfl
     subst hq1
     have hself : (e.t.iv.key.toList == key.toList) = true:=by rw [hkey];simp
     clear hy hly he hey hcs hv H hq hkey hm
     go_wp2
     go_quiet (fail)
     go_wp2
     go_ret2
     exact ⟨rfl,rfl,rfl,rfl,Nat.le_refl _,fun _ _ _ => rfl⟩
    ·have hq0 : q = false:=by
      rw [← hq]
      unfold jCs
      cases hf : jA0 key st.ents with
      | none => rfl
      | some z =>
       have h1:=jFz hg.rise hf
       rw [hm,hy] at h1
       cases h1
       exact absurd (by rw [← hey] at hf;exact (jBs hf).2) hkey
     subst hq0
     have hne:=jPf hkey
     clear hy hly he hey hcs hv H hq hkey hm
     go_wp2
     go_quiet (fail)
     go_wp2
     go_ret2
     exact ⟨rfl,rfl,rfl,rfl,Nat.le_refl _,fun _ _ _ => rfl⟩
   ·have hki : ¬ ((k : Int) < (N : Int)):=by omega
    have hd : decide ((k : Int) < (N : Int)) = false:=decide_eq_false hki
    have hq0 : q = false:=by
     rw [← hq]
     unfold jCs
     cases hf : jA0 key st.ents with
     | none => rfl
     | some z =>
      have h1:=jFz hg.rise hf
      rw [hm,List.getElem?_eq_none (by omega)] at h1
      cases h1
    subst hq0
    clear hv H hq hm
    go_wp2
    go_quiet (fail)
    go_wp2
    go_ret2
    exact ⟨rfl,rfl,rfl,rfl,Nat.le_refl _,fun _ _ _ => rfl⟩
end
end
section
open Go.RowKit Go.Shelf
theorem kIf {l : List Ent} (h : jA9 l) {k : ByteArray} {y : Ent} (hf : jA0 k l = some y) : jEp k l = l.take (jDx k l) ++ l.drop (jDx k l + 1):=by
 have hp:=jFz h hf
 obtain ⟨hm,hk⟩:=jBs hf
 have hlt : jDx k l < l.length:=(List.getElem?_eq_some_iff.1 hp).1
 have hl : l = l.take (jDx k l) ++ y :: l.drop (jDx k l + 1):=by
  have h1:=(List.take_append_drop (jDx k l) l).symm
  rw [List.drop_eq_getElem_cons hlt,(List.getElem?_eq_some_iff.1 hp).2] at h1
  exact h1
 have hr:=h
 unfold jA9 at hr
 rw [hl,List.pairwise_append] at hr
 obtain ⟨r1,r2,r3⟩:=hr
 have r4:=List.pairwise_cons.1 r2
 refine jM5 (jM7 h) (List.pairwise_append.2 ⟨r1,r4.2,fun a ha b hb => r3 a ha b (List.mem_cons_of_mem _ hb)⟩) fun e => ?_
 rw [jGx,List.mem_append]
 constructor
 ·rintro ⟨he,hne⟩
  rw [hl,List.mem_append,List.mem_cons] at he
  rcases he with he | rfl | he
  ·exact .inl he
  ·exact absurd hk hne
  ·exact .inr he
 ·rintro (he | he)
  ·exact ⟨List.mem_of_mem_take he,fun e2 => jEz (r3 e he y List.mem_cons_self) (e2.trans hk.symm)⟩
  ·exact ⟨List.mem_of_mem_drop he,fun e2 => jEz (r4.1 e he) (hk.trans e2.symm)⟩
section
variable {w0 w : World} {r sd n : Nat} {P : Rp} {st : Hs} {R : jAd}
theorem Law.addEmp {A : jAd} (H : Law w0 w A) : Law w0 w (jAd.emp.and A):=⟨H.below,⟨trivial,H.q,fun _ h => h.elim⟩,fun k hk => hk.elim (fun h => h.elim) (H.lt k)⟩
theorem jAo.slabSmall {n : Nat} {st : Hs} (g : jAo n st) (hn : n ≤ 900) : Small st.slab 9000:=by
 have h:=g.small
 exact ⟨by have:=h.inn;omega,by have:=h.gone;omega,fun m hm => by have:=h.made m hm;omega⟩
theorem kD4 (H : jAc w0 w r sd P st R) (hn : (jA3 st.ord).length ≤ 1000) (s : ByteArray) (hm : s ∈ jA3 st.ord) :
  Calls Tryz.prog 79 #[.pointer (some ⟨P.op,0,none⟩),.string s] w fun en w' => en = .returned (.int .i64 0) ∧ ∃ vt vs,jAc w0 w' r sd { P with vt:=vt,vs:=vs } { st with ord:=jHf st.ord s } R:=by
 refine (kA8 H.listOut hn s hm).mono ?_
 rintro e w' ⟨h1,vt,vs,N⟩
 refine ⟨h1,vt,vs,jAc.listBack (P:=P) (st:=st) H.ents ?_⟩
 have N1:=(N.rin.rot.weak1 (A':=jOk vs (jAx st.ord.safe s)) (fun h => jEy h) fun k hk => hk).rot.rin
 exact N1.shut (st:=jHf st.ord s)
abbrev S4 (r sp g m N cap : Nat) (c : Ck) (w : World) : Prop:=w.cell? ⟨r,1,none⟩ = some (.pointer (some ⟨sp,0,none⟩)) ∧ w.cell? ⟨r,0,none⟩ = some (.slice (some ⟨g,0,none⟩) N cap) ∧ w.cell? ⟨g,m * 12 + 10,none⟩ = some (.int .i64 c.1) ∧ w.cell? ⟨g,m * 12 + 10 + 1,none⟩ = some (.int .i64 c.2)
theorem jAc.s4 (H : jAc w0 w r sd P st R) {N cap g m : Nat} (hN : P.es.length = N) (hv : P.vL = .slice (some ⟨g,0,none⟩) N cap) {e : Re} (he : P.es[m]? = some e) {c : Ck} (hc : e.ck = c) : S4 r P.sp g m N cap c w:=by
 obtain ⟨g',e',hcs⟩:=H.reAt hN hv he
 cases e'
 subst hc
 exact ⟨H.cells.2.1,by rw [← hv];exact H.cells.1,hcs 10 _ rfl,hcs 11 _ rfl⟩
theorem jQz (H : jAc w0 w r sd P st R) (hg : jAo n st) (hn : n ≤ 900) (key : ByteArray) (q : Bool) (hq : jCs st key = q) (t : Hs) (ht : jBv st key = t) :
  Calls Tryz.prog 42 #[.pointer (some ⟨r,0,none⟩),.string key] w fun e w' => e = .returned (.bool q) ∧ ∃ P',jAc w0 w' r sd P' t R:=by
 obtain ⟨m,hm⟩ : ∃ m,jDx key st.ents = m:=⟨_,rfl⟩
 cases hf : jA0 key st.ents with
 | none =>
  obtain rfl : t = st:=by rw [← ht];unfold jBv;rw [hf]
  obtain rfl : q = false:=by rw [← hq];unfold jCs;rw [hf];rfl
  clear ht hf
  go_enter Tryz.func42,Tryz.ntmps42
  go_wp2_with (go_at_call 67;refine (jCb H hg hn key _ hq m hm).mono ?_;rintro e w1 ⟨rfl,hgr⟩;have H1:=H.step hgr;clear H hgr)
  go_ret
  exact ⟨rfl,_,H1⟩
 | some y =>
  obtain rfl : q = true:=by rw [← hq];unfold jCs;rw [hf];rfl
  have hp:=jFz hg.rise hf
  rw [hm] at hp
  have hdel:=kIf hg.rise hf
  rw [hm] at hdel
  obtain ⟨e,he,hey⟩:=H.get hp
  obtain ⟨N,hN⟩ : ∃ N,P.es.length = N:=⟨_,rfl⟩
  have hN9 : N ≤ 900:=by have:=hg.len.1;have:=H.len;omega
  have hmN : m < N:=by rw [← hN];exact (List.getElem?_eq_some_iff.1 he).1
  have hkm : key ∈ jA3 st.ord:=by
   rw [hg.keys.mem_iff]
   obtain ⟨h1,h2⟩:=jBs hf
   exact List.mem_map.2 ⟨y,h1,h2⟩
  have hl1 : (jA3 st.ord).length ≤ 1000:=by rw [hg.len.2.2.1,← H.len,hN];omega
  obtain ⟨pa,cap,hv,hc1,hc2⟩:=H.slice hN
  unfold maxLen at hc2
  obtain ⟨g,rfl,hcs⟩:=H.reAt hN hv he
  have hback:=H.ents
  obtain ⟨u1,f1,f2⟩:=jPs H.row m (by omega)
  obtain ⟨u2,b1,b2⟩:=jQo H.row (m + 1) (by omega)
  have hout : t = { st with ents:=(P.es.take m ++ P.es.drop (m + 1)).map Re.ent,slab:=jBj st.slab y.2,ord:=jHf st.ord key }:=by
   rw [← ht]
   unfold jBv
   rw [hf]
   show jOz st key y = _
   unfold jOz
   rw [hdel,List.map_append,List.map_take,List.map_drop,hback]
  have HO:=jAa hout
  have F2:=jAa f2
  have B2:=jAa b2
  have HCS:=jAa hcs
  have HE:=jAa he
  have HK:=jAa hkm
  have HL:=jAa hl1
  have hmi : (m : Int) < (N : Int):=by omega
  have hw : IntKind.i64.wrap ((m : Int) + 1) = (m : Int) + 1:=by rw [IntKind.wrap_i64];omega
  rw [hv] at f1 b1
  have hb1 : ∀ w : World,(Instr.sliceAt 70 (.slice (some ⟨g,0,none⟩) N cap) (some (.int .i64 ((m : Int) + 1))) none none).run Tryz.prog w = .ok u2 w:=fun w => by
   have:=b1 w
   rw [show ((m + 1 : Nat) : Int) = (m : Int) + 1 by omega] at this
   exact this
  have hck : e.ck = y.2:=by rw [← hey];rfl
  have HV:=jAa hv
  have HN:=jAa hN
  have HCK:=jAa hck
  have HA : Hid (jCs st key = true):=hq
  clear hout f2 b2 hcs he hkm hl1 hdel hp hf ht hback b1 hv hN hck hq hey
  go_enter Tryz.func42,Tryz.ntmps42
  go_upto_region 4 with (go_at_call 67;refine (jCb H hg hn key _ HA.out m hm).mono ?_;rintro e w1 ⟨rfl,hgr⟩;have H1:=(H.step hgr).drew;clear H hgr;have c1:=jAa (H1.s4 HN.out HV.out HE.out HCK.out))
  go_region_held (S4 r P.sp g m N cap y.2) (first | exact c2 | exact c1.out) ((go_at_call 78;refine (jVu H1.slab hg.slabG (hg.slabSmall hn) H1.law.below.size y.2.1 y.2.2).mono ?_;rintro e w7 ⟨rfl,vi,vg,h1,h2,h3⟩;have H2:=H1.slabTurn h1 h2 h3;have c2:=H2.s4 HN.out HV.out HE.out HCK.out;clear h1 h2 h3))
  have k2 : w7.cell? ⟨r,2,none⟩ = some (.pointer (some ⟨P.op,0,none⟩)):=H2.cells.2.2.1
  clear c2 c1 H1
  go_wp2_with (first
   | (go_at_call 79;refine (kD4 H2 HL.out key HK.out).mono ?_;rintro e w8 ⟨rfl,vt,vs,H3⟩;clear H2 k2;have k0 : w8.cell? ⟨r,0,none⟩ = some (.slice (some ⟨g,0,none⟩) N cap):=(by rw [← HV.out];exact H3.cells.1);have P1:=F2.out w8 (jLi H3.row);have hb8:=H3.law.below.size)
   | (at_builtin;refine jEe rfl _ _ rfl w0.heap.size (.slice none 0 0) 0 [] rfl (World.ownsRow_nil _ _ _ _) u1 (P.es.take m) rfl P1 (by rw [List.length_take];omega) hb8 ?_;intro v1 w9 hown1 hgrow1 hat1;rw [Nat.zero_add,List.nil_append] at hown1;have N1:=(H3.law.addEmp.nil (n0:=w0.heap.size) (e:=94) (size:=12)).app0 hown1 hgrow1 hat1;clear hgrow1 hat1 k0 P1 hb8;have H4 : jAc w0 w9 r sd _ _ R:=⟨N1.right.right,H3.ents⟩;clear H3;have k0 : w9.cell? ⟨r,0,none⟩ = some (.slice (some ⟨g,0,none⟩) N cap):=(by rw [← HV.out];exact H4.cells.1);have P2:=B2.out w9 (jLi H4.row);have hb9:=H4.law.below.size)
   | (at_builtin;refine jEe rfl _ _ rfl w0.heap.size v1 (P.es.take m).length (jAv (P.es.take m)) rfl hown1 u2 (P.es.drop (m + 1)) rfl P2 (by rw [List.length_take,List.length_drop,HN.out];omega) hb9 ?_;intro v2 w10 hown2 hgrow2 hat2;have N2:=N1.app0 hown2 hgrow2 hat2;clear hgrow2 hat2 k0 P2 hb9 N1;rw [← List.length_append,← jHx] at N2 hown2;obtain ⟨q1,q2,H5⟩:=jAc.rowNew N2 (fun x hx => .inl ((List.mem_append.1 hx).elim List.mem_of_mem_take List.mem_of_mem_drop));clear N2 H4;obtain ⟨M,hM⟩ : ∃ M,(P.es.take m ++ P.es.drop (m + 1)).length = M:=⟨_,rfl⟩;rw [hM] at hown2;clear hM;obtain ⟨a2,cap2,rfl⟩:=jAr hown2))
  go_ret
  exact ⟨rfl,_,by rw [HO.out];exact H5⟩
theorem jLg (H : jAc w0 w r sd P st R) (hg : jAo n st) (hn : n ≤ 900) (key : ByteArray) (t : Hs) (ht : jBy st key = t) :
  Calls Tryz.prog 69 #[.pointer (some ⟨r,0,none⟩),.string key] w fun e w' => (∃ v,e = .returned v) ∧ ∃ P',jAc w0 w' r sd P' t R:=by
 obtain ⟨i0,hi,hz0,hz1,hz2⟩:=info_parts jJ4
 obtain ⟨t1,ht1⟩ : ∃ t1,jBv st key = t1:=⟨_,rfl⟩
 have hd1 : t1.drops = st.drops:=by
  rw [← ht1]
  unfold jBv
  split <;> rfl
 obtain ⟨D,hD⟩ : ∃ D,st.drops.length = D:=⟨_,rfl⟩
 have hD9 : D ≤ 900:=by have:=hg.len.2.1;omega
 have hT : t = { t1 with drops:=t1.drops ++ [key] }:=by rw [← ht,← ht1];rfl
 have HT:=jAa hT
 have HD1:=jAa hd1
 have HD:=jAa hD
 clear hT hd1 hD ht
 go_enter Tryz.func69,Tryz.ntmps69
 go_wp2_with (first
  | (go_at_call 42;refine (jQz H hg hn key _ rfl _ ht1).mono ?_;rintro e w1 ⟨rfl,P1,H1⟩;clear H;have k4:=H1.cells.2.2.2.2;have hrow : (w1.alloc (.cells #[.string key] 9)).ownsRow w0.heap.size 9 1 P1.vD t1.drops.length (jB6 t1.drops):=H1.drops.alloc _;have hb1 : w0.heap.size ≤ (w1.alloc (.cells #[.string key] 9)).heap.size:=(by rw [World.size_alloc];exact Nat.le_succ_of_le H1.law.below.size))
  | (at_builtin;refine wpList_append_own_at _ rfl _ _ 46 rfl w0.heap.size 9 i0 _ 1 16 Tryz.underlying46 hi hz0 hz1 hz2 rfl (by decide) _ _ _ rfl hrow ⟨w1.heap.size,0,none⟩ 1 1 [.string key] rfl rfl (cell_one_new w1 _ _) (by simp [Value.oneCell']) (by unfold maxLen;rw [HD1.out,HD.out];omega) (by rw [HD1.out,HD.out];omega) hb1 ?_;intro v2 w2 hown hgrow _ hat;have N:=(H1.law.takeOut (A:=jB2 w0.heap.size 9 1 P1.vD t1.drops.length (jB6 t1.drops)) 6 rfl).app hown hgrow hat;rw [← jL2] at N;obtain ⟨q1,q2,N2⟩:=jAc.dropNew (ds:=t1.drops ++ [key]) (by rw [List.length_append];exact N);obtain ⟨M,hM⟩ : ∃ M,t1.drops.length + 1 = M:=⟨_,rfl⟩;rw [hM] at hown;clear hM N;obtain ⟨a2,cap2,rfl⟩:=jAr hown))
 go_end0
 exact ⟨⟨_,rfl⟩,_,by rw [HT.out];exact ⟨N2,H1.ents⟩⟩
end
end
section
open Go.RowKit Go.Shelf
section
variable {w0 w : World} {r sd n k : Nat} {P : Rp} {st : Hs} {R A B : jAd}
theorem jAc.box (H : jAc w0 w r sd P st R) (o : Obj) : jAc w0 (w.alloc o) r sd P st ((jAn w.heap.size o).and R):=⟨(H.law.box o).rot,H.ents⟩
theorem jAc.less (H : jAc w0 w r sd P st (A.and R)) : jAc w0 w r sd P st R:=⟨H.law.drop2,H.ents⟩
theorem jAc.swap (H : jAc w0 w r sd P st (A.and (B.and R))) : jAc w0 w r sd P st (B.and (A.and R)):=⟨H.law.rin,H.ents⟩
theorem jAc.setRow {old : Array Value} {t : TypeId} (H : jAc w0 w r sd P st ((jAn k (.cells old t)).and R)) (cs : Array Value) : jAc w0 (w.setRow k cs) r sd P st ((jAn k (.cells cs t)).and R):=⟨(jG1 ((jGp H.law.rot).setRow cs)).rot,H.ents⟩
theorem jAc.setAt {cs : Array Value} {t : TypeId} (H : jAc w0 w r sd P st ((jAn k (.cells cs t)).and R)) (i : Nat) (y : Value) : jAc w0 (w.setCell ⟨k,i,none⟩ y) r sd P st ((jAn k (.cells (cs.setIfInBounds i y) t)).and R):=⟨(H.law.rot.setAt i y).rot,H.ents⟩
theorem jAc.boxAt {o : Obj} (H : jAc w0 w r sd P st ((jAn k o).and R)) : w.heap[k]? = some o:=H.law.q.2.1.1
theorem jAc.boxAt2 {o : Obj} (H : jAc w0 w r sd P st (A.and ((jAn k o).and R))) : w.heap[k]? = some o:=H.law.q.2.1.2.1.1
theorem jFx (H : jAc w0 w r sd P st R) (hg : jAo n st) (hn : n ≤ 900) (key : ByteArray) (hs : key.size ≤ 140737488351232) (t : Hs) (ht : jGt sd st key = t) :
  Calls Tryz.prog 35 #[.pointer (some ⟨r,0,none⟩),.string key] w fun e w' => (∃ v,e = .returned v) ∧ ∃ P',P'.es = P.es ∧ jAc w0 w' r sd P' t R:=by
 have hl : (jA3 st.ord).length ≤ 900:=by have:=hg.len;omega
 have HT:=jAa ht
 have k3:=H.cells.2.2.2.1
 clear ht
 go_enter Tryz.func35,Tryz.ntmps35
 go_wp2_with (first
  | (go_at_call 70;refine (kAi H.judge H.law.below.size hg.jdG key (Nat.le_trans hs (by decide))).mono ?_;rintro e w1 ⟨⟨v0,rfl⟩,v1,h1,h2,h3⟩;have H1:=H.judgeTurn h1 h2 h3;clear h1 h2 h3 H k3;have k2 : w1.cell? ⟨r,2,none⟩ = some (.pointer (some ⟨P.op,0,none⟩)):=H1.cells.2.2.1)
  | (go_at_call 71;refine (kOd H1.listOut hl key _ _ rfl rfl).mono ?_;rintro e w2 ⟨rfl,vt,vs,N⟩;have H2:=jAc.listBack H1.ents N;clear N H1 k2))
 go_end0
 exact ⟨⟨_,rfl⟩,{ P with vt:=vt,vs:=vs,v:=v1 },rfl,by rw [← HT.out];exact H2⟩
theorem kCh (H : jAc w0 w r sd P st R) (l : List ByteArray) (hl : st.drops = l) :
  Calls Tryz.prog 19 #[.pointer (some ⟨r,0,none⟩)] w fun e w' => ∃ P',e = .returned P.vD ∧ jAc w0 w' r sd P' (jGb st) ((jB2 w0.heap.size 9 1 P.vD l.length (jB6 l)).and R):=by
 subst hl
 have k4:=H.cells.2.2.2.2
 have N:=H.law.takeOut (A:=jB2 w0.heap.size 9 1 P.vD st.drops.length (jB6 st.drops)) 6 rfl
 have N1:=(N.rot.nil (n0:=w0.heap.size) (e:=9) (size:=1))
 obtain ⟨q1,q2,N2⟩:=jAc.dropNew (P:=P) (st:=st) (ds:=[]) (v2:=.slice none 0 0) N1
 have HN2:=jAa N2
 clear N N1 N2
 have hvD : ∃ a c,P.vD = .slice a st.drops.length c:=jAr H.drops
 have HE:=jAa H.ents
 clear H
 obtain ⟨pa,pc,hv⟩:=hvD
 rw [hv] at k4 q1 HN2 ⊢
 clear q1
 go_enter Tryz.func19,Tryz.ntmps19
 go_wp2
 go_ret
 exact ⟨{ P with vD:=.slice none 0 0 },rfl,HN2.out,HE.out⟩
theorem jK7 (H : jAc w0 w r sd P st R) (hg : jAo n st) (hn : n ≤ 900) (key : ByteArray) (en : En) (t : Hs) (ht : jAy st key en = t) :
  Calls Tryz.prog 34 #[.pointer (some ⟨r,0,none⟩),.string key,.agg (enC en)] w fun e w' => ∃ P',jAc w0 w' r sd P' t R ∧
   ((jAp st key en = none ∧ e = .returned (.tuple #[.agg (itC jBw),.bool false])) ∨ ∃ x : Re,x ∈ P'.es ∧ jAp st key en = some x.ent ∧ e = .returned (.tuple #[.agg (itC x.t.it),.bool true])):=by
 obtain ⟨m,hm⟩ : ∃ m,jDx key st.ents = m:=⟨_,rfl⟩
 have H1:=(H.box (.cells (enC en) 35)).box (.cells (itC jBw) 75)
 rw [World.size_alloc] at H1
 clear H
 cases hf : jA0 key st.ents with
 | none =>
  obtain rfl : t = st:=by rw [← ht];unfold jAy;rw [hf]
  have hL : jAp t key en = none:=by unfold jAp;rw [hf]
  have hq : jCs t key = false:=by unfold jCs;rw [hf];rfl
  have HL:=jAa hL
  clear ht hf hL
  go_enter Tryz.func34,Tryz.ntmps34
  go_wp2_with (first
   | (go_at_call 67;refine (jCb H1 hg hn key _ hq m hm).mono ?_;rintro e w1 ⟨rfl,hgr⟩;have H2:=H1.step hgr;clear H1 hgr)
   | (refine stI (w.heap.size + 1) jBw rfl _ _ rfl rfl rfl H2.boxAt ?_;have H3:=H2.setRow (itC jBw)))
  exact jMa rfl H3.boxAt rfl rfl ⟨_,H3.less.less,.inl ⟨HL.out,rfl⟩⟩
 | some y =>
  have hq : jCs st key = true:=by unfold jCs;rw [hf];rfl
  have hp:=jFz hg.rise hf
  rw [hm] at hp
  obtain ⟨x,hx,hxy⟩:=H1.get hp
  obtain ⟨N,hN⟩ : ∃ N,P.es.length = N:=⟨_,rfl⟩
  have hmN : m < N:=by rw [← hN];exact (List.getElem?_eq_some_iff.1 hx).1
  have hmi : (m : Int) < (N : Int):=by omega
  obtain ⟨pa,cap,hv,hc1,hc2⟩:=H1.slice hN
  unfold maxLen at hc2
  have HV:=jAa hv
  have HN:=jAa hN
  have HX:=jAa hx
  have HXY:=jAa hxy
  obtain ⟨g,rfl,-⟩:=H1.reAt hN hv hx
  have HLV : Hid (jDd x.t.it.exp x.t.it.sec x.t.it.seq en = jCn y.1 en):=by
   show jCn x.ent.1 en = _
   rw [hxy]
  clear hv hN hx hxy hp
  cases hlv : jCn y.1 en with
  | false =>
   obtain rfl : t = jBy st key:=by rw [← ht];unfold jAy;rw [hf];simp [hlv]
   have HL : Hid (jAp st key en = none):=by show jAp st key en = none;unfold jAp;rw [hf];simp [hlv]
   rw [hlv] at HLV
   clear ht hf hlv
   go_enter Tryz.func34,Tryz.ntmps34
   go_wp2_with (first
    | (go_at_call 67;refine (jCb H1 hg hn key _ hq m hm).mono ?_;rintro e w1 ⟨rfl,hgr⟩;have H2:=H1.step hgr;clear H1 hgr;have k0 : w1.cell? ⟨r,0,none⟩ = some (.slice (some ⟨g,0,none⟩) N cap):=(by rw [← HV.out];exact H2.cells.1);obtain ⟨g',eg,hcs⟩:=H2.reAt HN.out HV.out HX.out;have hr : w1.rangeAt g (m * 12) (itC x.t.it).toList:=(by cases eg;intro j v hv;exact hcs j v (by unfold Re.cells;rw [List.getElem?_append_left (List.getElem?_eq_some_iff.1 hv).1];exact hv));clear hcs eg;have H3:=H2.box (.cells (itC x.t.it) 75))
    | (refine wpList_load_mid rfl 75 _ rfl g (m * 12) rfl (itC x.t.it).toList _ hr Tryz.underlying75 rfl (by rw [jCd x.t.it,Array.length_toList]) ?_)
    | (refine stI w1.heap.size x.t.it rfl _ _ rfl rfl rfl (World.alloc_heap_new w1 _) ?_;rw [jAq])
    | (refine ldI w1.heap.size x.t.it rfl _ rfl rfl H3.boxAt ?_)
    | (refine ldE w.heap.size en rfl _ rfl rfl H3.less.boxAt2 ?_)
    | (go_at_call 68;refine (jF1 x.t.it en _).mono ?_;rintro e w4 ⟨rfl,hgr⟩;have H4:=H3.step hgr.grown;clear H3 hgr;rw [HLV.out])
    | (go_at_call 69;refine (jLg H4 hg hn key _ rfl).mono ?_;rintro e w5 ⟨⟨v5,rfl⟩,P5,H5⟩;clear H4;have H6:=H5.less;clear H5)
    | (refine stI (w.heap.size + 1) jBw rfl _ _ rfl rfl rfl H6.boxAt ?_;have H7:=H6.setRow (itC jBw)))
   exact jMa rfl H7.boxAt rfl rfl ⟨_,H7.less.less,.inl ⟨HL.out,rfl⟩⟩
  | true =>
   obtain rfl : t = st:=by rw [← ht];unfold jAy;rw [hf];simp [hlv]
   have HL : Hid (jAp t key en = some y):=by show jAp t key en = some y;unfold jAp;rw [hf];simp [hlv]
   rw [hlv] at HLV
   clear ht hf hlv
   go_enter Tryz.func34,Tryz.ntmps34
   go_wp2_with (first
    | (go_at_call 67;refine (jCb H1 hg hn key _ hq m hm).mono ?_;rintro e w1 ⟨rfl,hgr⟩;have H2:=H1.step hgr;clear H1 hgr;have k0 : w1.cell? ⟨r,0,none⟩ = some (.slice (some ⟨g,0,none⟩) N cap):=(by rw [← HV.out];exact H2.cells.1);obtain ⟨g',eg,hcs⟩:=H2.reAt HN.out HV.out HX.out;have hr : w1.rangeAt g (m * 12) (itC x.t.it).toList:=(by cases eg;intro j v hv;exact hcs j v (by unfold Re.cells;rw [List.getElem?_append_left (List.getElem?_eq_some_iff.1 hv).1];exact hv));clear hcs eg;have H3:=H2.box (.cells (itC x.t.it) 75);have MK : Hid True:=trivial)
    | (refine wpList_load_mid rfl 75 _ rfl g (m * 12) rfl (itC x.t.it).toList _ hr Tryz.underlying75 rfl (by rw [jCd x.t.it,Array.length_toList]) ?_)
    | (refine stI w1.heap.size x.t.it rfl _ _ rfl rfl rfl (World.alloc_heap_new w1 _) ?_;rw [jAq])
    | (have t1:=MK;clear t1;refine ldI w1.heap.size x.t.it rfl _ rfl rfl H3.boxAt ?_)
    | (refine ldE w.heap.size en rfl _ rfl rfl H3.less.boxAt2 ?_)
    | (go_at_call 68;refine (jF1 x.t.it en _).mono ?_;rintro e w4 ⟨rfl,hgr⟩;have H4:=H3.step hgr.grown;clear H3 hgr MK;rw [HLV.out])
    | (refine ldI w1.heap.size x.t.it rfl _ rfl rfl H4.boxAt ?_;have H6:=H4.less)
    | (refine stI (w.heap.size + 1) x.t.it rfl _ _ rfl rfl rfl H6.boxAt ?_;have H7:=H6.setRow (itC x.t.it)))
   exact jMa rfl H7.boxAt rfl rfl ⟨_,H7.less.less,.inr ⟨x,List.mem_of_getElem? HX.out,by rw [HL.out,HXY.out],rfl⟩⟩
end
end
section
open Go.RowKit Go.Shelf
section
variable {w0 w : World} {r sd n : Nat} {R A : jAd} {l : List jAd}
theorem Law.consP (H : Law w0 w (A.and ((jCi l).and R))) : Law w0 w ((jCi (A :: l)).and R):=jG1 ((jGp H).consP)
theorem Law.nilP (H : Law w0 w R) : Law w0 w ((jCi []).and R):=jG1 ((jGp H).nilP)
theorem Law.addP (H : Law w0 w R) (hq : A.q w) (ho : ∀ k,¬ A.own k) : Law w0 w (A.and R):=⟨H.below,⟨hq,H.q,fun k hk => absurd hk (ho k)⟩,fun k hk => hk.elim (fun h => absurd h (ho k)) (H.lt k)⟩
theorem kDi (w : World) : jF5 w (.slice none 0 0) []:=⟨none,0,rfl,fun i hi => by simp at hi,fun _ => rfl⟩
theorem kD2 (H : Law w0 w R) (sd : Nat) (bud most : Int) : Calls Tryz.prog 8 #[.int .u64 sd,.int .i64 bud,.int .i64 most] w fun e w' => ∃ r P,e = .returned (.pointer (some ⟨r,0,none⟩)) ∧ jAc w0 w' r sd P (jG8 bud most) R:=by
 go_enter Tryz.func8,Tryz.ntmps8
 go_wp2_with (first
  | (go_at_call 26;refine (kC4 bud w0.heap.size w H.below.size).mono ?_;rintro e w1 ⟨sp,gm,rfl,h1,h2,h3⟩;have H1:=H.new (A:=jPe w0.heap.size sp (jEt bud) (.slice none 0 0) (.slice none 0 0) gm) h3 h1 (fun k hk => ⟨h2 k hk,h1.lt k hk⟩);have H2:=H1.box (.cells #[.int .i64 most,.slice none 0 0,.slice none 0 0] 67);have hs2:=H2.below.size;clear h1 h2 h3 H H1)
  | (go_at_call 27;refine (kH7 sd w0.heap.size _ hs2).mono ?_;rintro e w3 ⟨jp,c,kc,g,rfl,h1,h2,h3⟩;have H3:=H2.new (A:=jNi w0.heap.size jp c kc g sd jIn (.slice none 0 0)) h3 h1 (fun k hk => ⟨h2 k hk,h1.lt k hk⟩);clear h1 h2 h3 H2 hs2))
 go_ret
 have H4:=H3.box (.cells (jKr ⟨sp,w1.heap.size,jp,.slice none 0 0,.slice none 0 0,[],.slice none 0 0,.slice none 0 0,gm,.slice none 0 0,.slice none 0 0,c,kc,g,.slice none 0 0⟩) 72)
 have E1:=(H4.nilP.nil (n0:=w0.heap.size) (e:=9) (size:=1)).consP
 have E2:=E1.rin.rot.consP
 have L1:=E2.rin.rot
 have L2:=((L1.addP (A:=jOk (.slice none 0 0) []) (kDi _) (fun k hk => by cases hk)).nil (n0:=w0.heap.size) (e:=9) (size:=1))
 have L3:=Law.shut (st:=jIg most) (vt:=.slice none 0 0) (vs:=.slice none 0 0) L2.rin.rot
 have E3:=L3.consP
 have E4:=E3.rin.rot.consP
 have E5:=(E4.addP (A:=jIl []) (fun x hx => by cases hx) (fun k hk => by obtain ⟨x,hx,_⟩:=hk;cases hx)).consP
 have E6:=(E5.nil (n0:=w0.heap.size) (e:=94) (size:=12)).consP
 exact ⟨w3.heap.size,_,rfl,E6.rot.consP,rfl⟩
end
end
end Go.Proofs.YtkfeafmpaodagaaGreatDoor
