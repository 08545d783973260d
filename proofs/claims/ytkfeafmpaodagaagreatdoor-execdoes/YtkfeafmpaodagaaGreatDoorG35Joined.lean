/- Several cells of a block that are stored, one behind the other. Conditions: none. A row that is stored into a block that was just made. Conditions: none. Commands and results as values. Conditions: none. Commands, results and turns of package exec in memory; bytes that may be read beside all else. Conditions: none. '[]byte(s)': a row of its own, and that it may be read. Conditions: none. slices.Concat of two rows of bytes. Conditions: at most 50000 bytes. -/
import Derived.Test.YtkfeafmpaodagaaGreatDoorG00Joined
import Derived.Test.YtkfeafmpaodagaaGreatDoorG21Joined
import Derived.Test.YtkfeafmpaodagaaGreatDoorShardM
import Derived.Test.YtkfeafmpaodagaaGreatDoorG27Joined
import Derived.Deep.MidRow
import Derived.Test.YtkfeafmpaodagaaGreatDoorG02Joined
import Derived.Lib.AppendZeros
namespace Go.Proofs.YtkfeafmpaodagaaGreatDoor
set_option maxHeartbeats 16000000
section
open Go.RowKit
def setL (cs : Array Value) (o : Nat) : List Value → Array Value
 | [] => cs
 | v :: vs => setL (cs.setIfInBounds o v) (o + 1) vs
theorem jOt {k : Nat} {t : TypeId} : ∀ (vs : List Value) (o : Nat) (W : World) (cs : Array Value),W.heap[k]? = some (.cells cs t (0,0)) → (W.setCells k o vs).heap[k]? = some (.cells (setL cs o vs) t (0,0))
 | [],_,_,_,h => h
 | v :: vs,o,W,cs,h => jOt vs (o + 1) (W.setCell ⟨k,o,none⟩ v) (cs.setIfInBounds o v) (heap_setCell_same W k o cs t v h)
theorem jPb {k : Nat} : ∀ (vs : List Value) (o : Nat) (W : World),Gr (fun j => j = k) W (W.setCells k o vs)
 | [],_,W => Gr.refl _ W
 | v :: vs,o,W => by
  have h1 : Gr (fun j => j = k) W (W.setCell ⟨k,o,none⟩ v):=⟨rfl,rfl,rfl,by rw [World.size_setCell];exact Nat.le_refl _,fun j _ hn => heap_setCell_other _ _ _ _ hn⟩
  exact h1.trans (jPb vs (o + 1) (W.setCell ⟨k,o,none⟩ v))
theorem Law.setL {w0 w : World} {k : Nat} {cs : Array Value} {t : TypeId} {R : jAd} (H : Law w0 w ((jAn k (.cells cs t)).and R)) (o : Nat) (vs : List Value) : Law w0 (w.setCells k o vs) ((jAn k (.cells (setL cs o vs) t)).and R):=by
 have hg:=jPb (k:=k) vs o w
 exact H.turn (A':=jAn k (.cells (Go.Proofs.YtkfeafmpaodagaaGreatDoor.setL cs o vs) t)) (jOt vs o w cs H.q.1) (fun j hj => Nat.lt_of_lt_of_le (H.lt j (.inl hj)).2 hg.size) hg fun j hj => .inl hj
end
section
open Go.RowKit
theorem jAq (W : World) (old cs : Array Value) (t : TypeId) : (W.alloc (.cells old t)).setRow W.heap.size cs = W.alloc (.cells cs t):=by
 have e : (W.heap.push (.cells old t)).modify W.heap.size (fun | .cells _ elem frozen => .cells cs elem frozen | o => o) = W.heap.push (.cells cs t):=by
  apply Array.ext
  ·simp
  ·intro i h1 h2
   rw [Array.getElem_modify]
   by_cases hi : W.heap.size = i
   ·subst hi
    simp
   ·have h3 : i < W.heap.size:=by simp at h2;omega
    simp [hi,Array.getElem_push_lt h3]
 exact congrArg (fun h => ({ W with heap:=h } : World)) e
theorem jV7 (w : World) (o : Obj) (old cs : Array Value) (t : TypeId) : ((w.alloc o).alloc (.cells old t)).setRow (w.heap.size + 1) cs = (w.alloc o).alloc (.cells cs t):=by
 have:=jAq (w.alloc o) old cs t
 rwa [World.size_alloc] at this
end
section
open Go.RowKit
structure Cv where
 op : Int
 key : ByteArray
 val : List UInt8
 fl : Int
 exp : Int
 cas : Int
 del : Int
 ini : Int
 makes : Bool
 sets : Bool
structure Cv.ok (c : Cv) : Prop where
 op : I64 c.op
 key : c.key.size ≤ 140737488351232
 val : c.val.length ≤ 140737488351232
 exp : I64 c.exp
 cas : U64 c.cas
 del : U64 c.del
 ini : U64 c.ini
structure Rv where
 s : Int
 val : List UInt8
 fl : Int
 cas : Int
 ttl : Int
 num : Int
 st : Bool
 won : Bool
 lost : Bool
def jAh (s : Int) : Rv:=⟨s,[],0,0,0,0,false,false,false⟩
def jA8 (i : Iv) (en : En) : Rv:=⟨0,i.val,i.fl,i.cas,jCv i.exp en.now,0,i.st,false,false⟩
def jCx (a : Int) : Int:=(a + 1) % 18446744073709551616
def jBf (key : ByteArray) (v : List UInt8) (fl exp : Int) (en : En) : Iv:=⟨key,v,fl,exp,jCx en.seq,en.now,en.seq,false,false,false⟩
theorem jCm {exp now : Int} (he : I64 exp) (hn : I64 now) : I64 (atW exp now):=by
 unfold I64 at *
 unfold atW
 repeat' split
 all_goals first | omega | (unfold wrap64;omega)
end
section
set_option linter.unusedVariables false
open Go.RowKit Go.Shelf
variable {Sh : World → Nat → (Nat → Prop) → Nat → Nat → Hs → Prop}
def cmC (c : Cv) (a : Option Addr) (k : Nat) : Array Value:=#[.int .i64 c.op,.string c.key,.slice a c.val.length k,.int .u32 c.fl,.int .i64 c.exp,.int .u64 c.cas,.int .u64 c.del,.int .u64 c.ini,.bool c.makes,.bool c.sets]
def rsC (r : Rv) (a : Option Addr) (k : Nat) : Array Value:=#[.int .i64 r.s,.slice a r.val.length k,.int .u32 r.fl,.int .u64 r.cas,.int .i64 r.ttl,.int .u64 r.num,.bool r.st,.bool r.won,.bool r.lost]
def tuC (b : Nat) (c : Cv) (va : Option Addr) (vc : Nat) (en : En) (i : It) : Array Value :=
 #[.pointer (some ⟨b,0,none⟩),.int .i64 c.op,.string c.key,.slice va c.val.length vc,.int .u32 c.fl,.int .i64 c.exp,.int .u64 c.cas,.int .u64 c.del,.int .u64 c.ini,.bool c.makes,.bool c.sets,.int .i64 en.now,.int .u64 en.seq,.int .i64 en.flush,.int .u64 en.fseq,.string i.key,.slice i.va i.vl i.vc,.int .u32 i.fl,.int .i64 i.exp,.int .u64 i.cas,.int .i64 i.sec,.int .u64 i.seq,.bool i.st,.bool i.won,.bool i.seen]
theorem jGz (c : Cv) (a : Option Addr) (k : Nat) : (Tryz.prog.info? 33).map (·.size) = some (cmC c a k).size:=by
 have h : (Tryz.prog.info? 33).map (·.size) = some 10:=by kernel_rfl
 exact h
theorem jNo (r : Rv) (a : Option Addr) (k : Nat) : (Tryz.prog.info? 40).map (·.size) = some (rsC r a k).size:=by
 have h : (Tryz.prog.info? 40).map (·.size) = some 9:=by kernel_rfl
 exact h
theorem kNj (c : Cv) (a : Option Addr) (k : Nat) : (cmC c a k).all (·.oneCell') = true:=by simp [cmC,Value.oneCell']
theorem kBb (r : Rv) (a : Option Addr) (k : Nat) : (rsC r a k).all (·.oneCell') = true:=by simp [rsC,Value.oneCell']
def jAg : Rv:=⟨0,[],0,0,0,0,false,false,false⟩
abbrev tnP (k b : Nat) (c : Cv) (va : Option Addr) (vc : Nat) (en : En) (i : It) : jAd:=jAn k (.cells (tuC b c va vc en i) 81)
section
variable {w : World} {k b : Nat} {c : Cv} {va : Option Addr} {vc : Nat} {en : En} {i : It} {t : TypeId}
theorem jB5 (h : w.heap[k]? = some (.cells (tuC b c va vc en i) t (0,0))) (j : Nat) (v : Value) (hv : (tuC b c va vc en i)[j]? = some v) : w.cell? ⟨k,j,none⟩ = some v:=by
 unfold World.cell?
 rw [h]
 exact hv
theorem tu_s (h : w.heap[k]? = some (.cells (tuC b c va vc en i) t (0,0))) : w.cell? ⟨k,0,none⟩ = some (.pointer (some ⟨b,0,none⟩)):=jB5 h 0 _ rfl
theorem jCh (h : w.heap[k]? = some (.cells (tuC b c va vc en i) t (0,0))) : w.cell? ⟨k,1,none⟩ = some (.int .i64 c.op):=jB5 h 1 _ rfl
theorem jXs (h : w.heap[k]? = some (.cells (tuC b c va vc en i) t (0,0))) : w.cell? ⟨k,2,none⟩ = some (.string c.key):=jB5 h 2 _ rfl
theorem jXr (h : w.heap[k]? = some (.cells (tuC b c va vc en i) t (0,0))) : w.cell? ⟨k,3,none⟩ = some (.slice va c.val.length vc):=jB5 h 3 _ rfl
theorem tu_fl (h : w.heap[k]? = some (.cells (tuC b c va vc en i) t (0,0))) : w.cell? ⟨k,4,none⟩ = some (.int .u32 c.fl):=jB5 h 4 _ rfl
theorem tu_exp (h : w.heap[k]? = some (.cells (tuC b c va vc en i) t (0,0))) : w.cell? ⟨k,5,none⟩ = some (.int .i64 c.exp):=jB5 h 5 _ rfl
theorem jZb (h : w.heap[k]? = some (.cells (tuC b c va vc en i) t (0,0))) : w.cell? ⟨k,6,none⟩ = some (.int .u64 c.cas):=jB5 h 6 _ rfl
theorem kIo (h : w.heap[k]? = some (.cells (tuC b c va vc en i) t (0,0))) : w.cell? ⟨k,7,none⟩ = some (.int .u64 c.del):=jB5 h 7 _ rfl
theorem kF7 (h : w.heap[k]? = some (.cells (tuC b c va vc en i) t (0,0))) : w.cell? ⟨k,8,none⟩ = some (.int .u64 c.ini):=jB5 h 8 _ rfl
theorem jKf (h : w.heap[k]? = some (.cells (tuC b c va vc en i) t (0,0))) : w.cell? ⟨k,9,none⟩ = some (.bool c.makes):=jB5 h 9 _ rfl
theorem jTq (h : w.heap[k]? = some (.cells (tuC b c va vc en i) t (0,0))) : w.cell? ⟨k,10,none⟩ = some (.bool c.sets):=jB5 h 10 _ rfl
theorem jPw (h : w.heap[k]? = some (.cells (tuC b c va vc en i) t (0,0))) : w.cell? ⟨k,11,none⟩ = some (.int .i64 en.now):=jB5 h 11 _ rfl
theorem jS2 (h : w.heap[k]? = some (.cells (tuC b c va vc en i) t (0,0))) : w.cell? ⟨k,12,none⟩ = some (.int .u64 en.seq):=jB5 h 12 _ rfl
theorem jLy (h : w.heap[k]? = some (.cells (tuC b c va vc en i) t (0,0))) : w.cell? ⟨k,16,none⟩ = some (.slice i.va i.vl i.vc):=jB5 h 16 _ rfl
theorem kHg (h : w.heap[k]? = some (.cells (tuC b c va vc en i) t (0,0))) : w.cell? ⟨k,17,none⟩ = some (.int .u32 i.fl):=jB5 h 17 _ rfl
theorem jLz (h : w.heap[k]? = some (.cells (tuC b c va vc en i) t (0,0))) : w.cell? ⟨k,18,none⟩ = some (.int .i64 i.exp):=jB5 h 18 _ rfl
theorem jT2 (h : w.heap[k]? = some (.cells (tuC b c va vc en i) t (0,0))) : w.cell? ⟨k,19,none⟩ = some (.int .u64 i.cas):=jB5 h 19 _ rfl
theorem jXu (h : w.heap[k]? = some (.cells (tuC b c va vc en i) t (0,0))) : w.cell? ⟨k,22,none⟩ = some (.bool i.st):=jB5 h 22 _ rfl
theorem jJz (h : w.heap[k]? = some (.cells (tuC b c va vc en i) t (0,0))) : w.cell? ⟨k,23,none⟩ = some (.bool i.won):=jB5 h 23 _ rfl
theorem jOj (h : w.heap[k]? = some (.cells (tuC b c va vc en i) t (0,0))) : w.cell? ⟨k,24,none⟩ = some (.bool i.seen):=jB5 h 24 _ rfl
theorem kA0 (h : w.heap[k]? = some (.cells (tuC b c va vc en i) t (0,0))) : w.rangeAt k 15 (itC i).toList:=fun j v hv => by
 have hj : j < 10:=(List.getElem?_eq_some_iff.1 hv).1
 refine jB5 h _ v ?_
 match j,hj with
 | 0,_ | 1,_ | 2,_ | 3,_ | 4,_ | 5,_ | 6,_ | 7,_ | 8,_ | 9,_ => exact hv
theorem kMd (h : w.heap[k]? = some (.cells (tuC b c va vc en i) t (0,0))) : w.there k 15 10:=fun j hj => by
 refine ⟨?_,frozen_of_row _ _ _ _ _ h⟩
 unfold World.cell?
 rw [h]
 match j,hj with
 | 0,_ | 1,_ | 2,_ | 3,_ | 4,_ | 5,_ | 6,_ | 7,_ | 8,_ | 9,_ => rfl
theorem tu_set (i' : It) : setL (tuC b c va vc en i) 15 (itC i').toList = tuC b c va vc en i':=by
 simp [setL,tuC,itC]
end
section
variable {w0 w w' : World} {A R R' : jAd} {a : Option Addr} {c : Nat} {l : List UInt8}
structure Rd (w0 : World) (R : jAd) (a : Option Addr) (c : Nat) (l : List UInt8) : Prop where
 bs : ∀ W,Law w0 W R → Bs W a l.length c (jA6 l)
 at_ : ∀ W k,Law w0 W R → 0 < l.length → (Value.slice a l.length c).ownBlock = some k → k < w0.heap.size ∨ R.own k
theorem Rd.old (h : Bs w0 a l.length c (jA6 l)) : Rd w0 R a c l :=
 ⟨fun W H => h.on H.below,fun W k _ h0 hk => by
  rcases h with ⟨h1,_⟩ | ⟨g,off,r⟩
  ·omega
  ·have h2:=r.old
   rw [r.at_] at hk
   obtain rfl : g = k:=Option.some.inj hk
   exact .inl h2⟩
theorem Rd.val {n0 : Nat} : Rd w0 (jA5 n0 a c l) a c l:=⟨fun W H => jDi.bs H.q,fun W k _ _ hk => .inr hk⟩
theorem Rd.left (h : Rd w0 R a c l) : Rd w0 (R.and R') a c l:=⟨fun W H => h.bs W H.left,fun W k H h0 hk => (h.at_ W k H.left h0 hk).imp id .inl⟩
theorem Rd.right (h : Rd w0 R a c l) : Rd w0 (A.and R) a c l:=⟨fun W H => h.bs W H.right,fun W k H h0 hk => (h.at_ W k H.right h0 hk).imp id .inr⟩
theorem Rd.nil : Rd w0 R none 0 []:=⟨fun W _ => .inl ⟨rfl,rfl,fun _ => rfl⟩,fun W k _ h => by simp at h⟩
variable {b sd n : Nat} {own : Nat → Prop} {st : Hs} {L : jA7 Sh}
theorem Law.readR (H : Law w0 w ((shQ L b own sd n st).and R)) (h : Rd w0 R a c l) : jG7 w own a c l:=by
 refine ⟨h.bs w H.right,fun k h0 hk ho => ?_⟩
 rcases h.at_ w k H.right h0 hk with h1 | h1
 ·have:=(H.lt k (.inl ho)).1
  omega
 ·exact H.q.2.2 k ho h1
theorem Law.shMono {m : Nat} (H : Law w0 w ((shQ L b own sd n st).and R)) (hm : n ≤ m) (hl : m ≤ 901 ∨ st.slab.bud ≤ 57600) : Law w0 w ((shQ L b own sd m st).and R) :=
 H.weak1 (A':=shQ L b own sd m st) (fun h => L.mono h hm hl) fun _ h => h
def jDl (L : jA7 Sh) (w0 : World) (b sd n : Nat) (R : jAd) (r : Rv × Hs) (e : Ending) (w' : World) : Prop :=
 ∃ a c own',e = .returned (.agg (rsC r.1 a c)) ∧ Law w0 w' ((shQ L b own' sd n r.2).and ((jA5 0 a c r.1.val).and R))
theorem Law.noVal (H : Law w0 w ((shQ L b own sd n st).and R)) : Law w0 w ((shQ L b own sd n st).and ((jA5 0 none 0 []).and R)):=(H.nil (n0:=0) (e:=5) (size:=1)).rot
end
end
section
set_option linter.unusedVariables false
open Go.RowKit Go.Shelf
theorem jJa (l : List UInt8) (w : World) : ∃ C o,(convert 9 30 (.string ⟨l.toArray⟩)).run Tryz.prog w = .ok (.slice (some ⟨w.heap.size,0,none⟩) l.length C) (w.drew.alloc o) ∧ ∀ W : World,W.heap[w.heap.size]? = some o → Bs W (some ⟨w.heap.size,0,none⟩) l.length C (jA6 l):=by
 have hS : (⟨l.toArray⟩ : ByteArray).size = l.length:=by show l.toArray.size = _;simp
 have hr:=run_bytes_of_string (P:=Tryz.prog) w 9 30 5 ⟨l.toArray⟩ Tryz.underlying9 Tryz.underlying30 Tryz.underlying5
 have hge:=grownCap_ge w (⟨l.toArray⟩ : ByteArray).size 0 5
 obtain ⟨C,hC⟩ : ∃ C,C = grownCap w (⟨l.toArray⟩ : ByteArray).size 0 5:=⟨_,rfl⟩
 rw [← hC] at hr hge
 rw [hS] at hr hge
 refine ⟨C,_,hr,fun W hW => ?_⟩
 by_cases h0 : l.length = 0
 ·refine .inl ⟨h0,?_,fun e => by cases e⟩
  rw [List.eq_nil_of_length_eq_zero h0]
  rfl
 ·refine .inr ⟨w.heap.size,0,rfl,by omega,hge,jMf l,jQ8 l,fun i hi => ?_,(Array.getElem?_eq_some_iff.1 hW).1⟩
  unfold World.cell?
  rw [hW]
  show (bytesRow ⟨l.toArray⟩ C)[0 + i]? = _
  rw [Nat.zero_add,kIj _ _ hi]
  unfold bytesRow
  have hi3 : i < (⟨l.toArray⟩ : ByteArray).data.size:=by show i < l.toArray.size;simpa using hi
  rw [Array.getElem?_append_left (by rw [Array.size_map];exact hi3),Array.getElem?_map,Array.getElem?_eq_getElem hi3]
  show some (Value.int .u8 ((l.toArray[i]'hi3).toNat : Int)) = _
  simp
theorem Rd.box {w0 : World} {a : Option Addr} {c g : Nat} {o : Obj} {l : List UInt8} (ha : a = some ⟨g,0,none⟩) (h : ∀ W : World,W.heap[g]? = some o → Bs W a l.length c (jA6 l)) : Rd w0 (jAn g o) a c l :=
 ⟨fun W H => h W H.q,fun W k _ _ hk => .inr (by subst ha;exact (Option.some.inj hk).symm)⟩
end
section
set_option linter.unusedVariables false
open Go.RowKit
theorem kKz (w : World) : (Instr.sliceAt 30 (.slice none 0 0) none (some (.int .i64 0)) none).run Tryz.prog w = .ok (.slice none 0 0) w:=by go_simp
set_option maxRecDepth 100000 in
theorem kGq (n : Nat) (hn : n ≤ 100000) (w : World) : Calls Tryz.prog 167 #[.slice none 0 0,.int .i64 (n : Nat)] w fun e w' => ∃ v,e = .returned v ∧ w'.ownsRow w.heap.size 5 1 v 0 [] ∧ w.grownBy w' none:=by
 by_cases h0 : n = 0
 ·subst h0
  go_enter Tryz.func167,Tryz.ntmps167
  go_wp2
  go_ret
  exact ⟨_,rfl,World.ownsRow_nil _ _ _ _,jDg _ _⟩
 ·obtain ⟨i0,hi0,hz0,hz1,hz2⟩:=info_parts jVr
  have hr:=Lib.run_append_nil_zeros (P:=Tryz.prog) w 30 3 30 5 i0 (.int .u8 0) .i64 .i64 Tryz.underlying30 Tryz.underlying3 hi0 hz0 n (by omega) (by omega) (by omega) (by rw [hz2];omega)
  have hG1:=grownCap_ge w n 0 5
  have hG2:=grownCap_le_maxLen w n 0 5 (by unfold maxLen;omega)
  obtain ⟨G,hG⟩ : ∃ G,grownCap w n 0 5 = G:=⟨_,rfl⟩
  rw [hG] at hr hG1 hG2
  obtain ⟨cs,hcs⟩ : ∃ cs,Builtin.zeroCells (Value.int .u8 0).cells n ++ Builtin.zeroCells (Value.int .u8 0).cells (G - n) = cs:=⟨_,rfl⟩
  have hsz : cs.size = G * 1:=by
   rw [← hcs,Array.size_append,size_zeroCells,size_zeroCells]
   show n * 1 + (G - n) * 1 = G * 1
   omega
  rw [hcs] at hr
  have HO : Hid ((w.drew.alloc (.cells cs 5)).ownsRow w.heap.size 5 1 (.slice (some ⟨w.heap.size,0,none⟩) 0 G) 0 []) :=
   ⟨rfl,.inr ⟨_,G,cs,rfl,Nat.le_refl _,World.alloc_heap_new w.drew _,Nat.zero_le _,hG2,hsz,rfl⟩⟩
  have hgr : w.grownBy (w.drew.alloc (.cells cs 5)) none:=jAt (b:=w.drew) ⟨rfl,rfl,rfl,Nat.le_refl _,fun _ _ _ => rfl⟩ (World.grownBy_alloc _ _ none)
  have HR:=jAa hr
  have hc:=kKz w
  have e1 : wrap64 ((n : Int) - 0) = (n : Int):=by unfold wrap64;omega
  have hpos : (0 : Int) < (n : Int):=by omega
  have hGi : G ≤ 9223372036854775807:=hG2
  clear hr hcs hsz hG hi0 hz0 hz1 hz2 h0
  go_enter Tryz.func167,Tryz.ntmps167
  go_wp2_with (at_builtin;refine Lib.wpList_append_run _ rfl _ _ _ _ rfl _ _ rfl rfl _ _ HR.out ?_)
  go_ret
  exact ⟨_,rfl,HO.out,hgr⟩
def jQ5 (l m : List UInt8) : Nat → List UInt8
 | 0 => []
 | 1 => l
 | _ => l ++ m
structure Two (W : World) (g : Nat) (a1 a2 : Option Addr) (c1 c2 : Nat) (l m : List UInt8) : Prop where
 x : W.cell? ⟨g,0,none⟩ = some (.slice a1 l.length c1)
 y : W.cell? ⟨g,1,none⟩ = some (.slice a2 m.length c2)
 bl : Bs W a1 l.length c1 (jA6 l)
 bm : Bs W a2 m.length c2 (jA6 m)
 old : g < W.heap.size
theorem Two.step {W W' : World} {g : Nat} {a1 a2 : Option Addr} {c1 c2 : Nat} {l m : List UInt8} (h : Two W g a1 a2 c1 c2 l m) (hg : W.grownBy W' none) : Two W' g a1 a2 c1 c2 l m :=
 ⟨((jDv hg).cell (p:=⟨g,0,none⟩) h.old).trans h.x,((jDv hg).cell (p:=⟨g,1,none⟩) h.old).trans h.y,h.bl.on (jDv hg),h.bm.on (jDv hg),Nat.lt_of_lt_of_le h.old hg.size⟩
theorem kBm (l m : List UInt8) : byU (l ++ m) = byU l ++ byU m:=by simp [byU,byV,jA6]
theorem kBt {w wr w' : World} {v : Value} {n : Nat} {xs : List Value} (hg : w.grownBy wr none) (hr : wr.ownsRow w.heap.size 5 1 v n xs) (hg' : wr.grownBy w' v.ownBlock) : w.grownBy w' none:=by
 cases hb : v.ownBlock with
 | none =>
  rw [hb] at hg'
  exact jAt hg hg'
 | some k =>
  rw [hb] at hg'
  exact jG6 hg hg' (jCw hr hb).1
set_option maxRecDepth 100000 in
theorem kLt {w : World} {g : Nat} {a1 a2 : Option Addr} {c1 c2 : Nat} {l m : List UInt8} (h : Two w g a1 a2 c1 c2 l m) (hlm : l.length + m.length ≤ 50000) :
  Calls Tryz.prog 137 #[.slice (some ⟨g,0,none⟩) 2 2] w fun e w' => ∃ v,e = .returned v ∧ w'.ownsRow w.heap.size 5 1 v (l ++ m).length (byU (l ++ m)) ∧ w.grownBy w' none:=by
 have H:=jAa h
 obtain ⟨p,hp⟩ : ∃ p,l.length = p:=⟨_,rfl⟩
 obtain ⟨q,hq⟩ : ∃ q,m.length = q:=⟨_,rfl⟩
 have x0:=h.x
 have y0:=h.y
 rw [hp] at x0 hlm
 rw [hq] at y0 hlm
 have HG:=jAa (fun W => kGq (p + q) (by omega) W)
 have HPQ : Hid ((l ++ m).length = p + q):=by show (l ++ m).length = p + q;rw [List.length_append,hp,hq]
 have HP:=jAa hp
 have HQ:=jAa hq
 have e1 : wrap64 (0 + (p : Int)) = (p : Int):=by unfold wrap64;omega
 have e2 : wrap64 ((p : Int) + (q : Int)) = ((p + q : Nat) : Int):=by unfold wrap64;omega
 have e3 : ¬ ((p : Int) < 0):=by omega
 have e4 : ¬ (((p + q : Nat) : Int) < 0):=by omega
 clear h hp hq
 go_enter Tryz.func137,Tryz.ntmps137
 go_wp2
 go_loopw [3,5,11] (fun s _ i wr => ∃ j : Nat,j ≤ 2 ∧ i = .int .i64 j ∧ s = .int .i64 (if j = 0 then 0 else if j = 1 then (p : Int) else ((p + q : Nat) : Int)) ∧ w = wr) (fun _ _ i _ => 2 - (intOf i).toNat)
 case atStart => exact ⟨0,by omega,rfl,rfl,rfl⟩
 case round =>
  obtain ⟨j,hj,rfl,rfl,rfl⟩:=hrel
  match j,hj with
  | 0,_ =>
   go_wp2
   go_roundw
   case rel => exact ⟨1,by omega,rfl,by first | rfl | simp,by first | trivial | rfl⟩
   case measure => simp [intOf]
  | 1,_ =>
   go_wp2
   go_roundw
   case rel => exact ⟨2,by omega,rfl,by first | rfl | simp,by first | trivial | rfl⟩
   case measure => simp [intOf]
  | 2,_ =>
   go_wp2_with (go_at_call 167;refine (HG.out _).mono ?_;rintro e w1 ⟨v0,rfl,hr0,hg0⟩;replace hr0:=jAa hr0)
   go_loopw [6,8,27] (fun v _ i wr => ∃ j2 : Nat,j2 ≤ 2 ∧ i = .int .i64 j2 ∧ Hid (wr.ownsRow w.heap.size 5 1 v (jQ5 l m j2).length (byU (jQ5 l m j2))) ∧ Hid (w.grownBy wr none)) (fun _ _ i _ => 2 - (intOf i).toNat)
   case atStart => exact ⟨0,by omega,rfl,hr0,hg0⟩
   case round =>
    obtain ⟨j2,hj2,rfl,hr,hg⟩:=hrel
    clear hr0 hg0 x0 y0
    have HC:=H.out.step hg.out
    match j2,hj2 with
    | 0,_ =>
     have x1:=HC.x
     rw [HP.out] at x1
     obtain ⟨v',w2,hrun,ho2,hg2,hat⟩:=jIp _ w.heap.size 30 hr.out HP.out (by have:=HC.bl;rwa [HP.out] at this) (by show 0 + p ≤ _;omega) hg.out.size
     have HR:=jAa hrun
     have HG2:=jAa (kBt hg.out hr.out hg2)
     have HO2 : Hid (w2.ownsRow w.heap.size 5 1 v' (jQ5 l m 1).length (byU (jQ5 l m 1))):=by
      show World.ownsRow _ _ _ _ _ _ _
      have h5 : w2.ownsRow w.heap.size 5 1 v' (0 + p) ([] ++ byU l):=ho2
      rw [Nat.zero_add,List.nil_append] at h5
      show World.ownsRow w2 w.heap.size 5 1 v' l.length (byU l)
      rw [HP.out]
      exact h5
     clear hrun ho2 hg2 hat HC
     go_wp2_with (at_builtin;refine Lib.wpList_append_run _ rfl _ _ _ _ rfl _ _ rfl rfl _ _ HR.out ?_)
     go_roundw
     case rel => exact ⟨1,by omega,rfl,HO2,HG2⟩
     case measure => simp [intOf]
    | 1,_ =>
     have y1:=HC.y
     rw [HQ.out] at y1
     have hr1:=hr.out
     rw [show (jQ5 l m 1).length = p from HP.out] at hr1
     obtain ⟨v',w2,hrun,ho2,hg2,hat⟩:=jIp _ w.heap.size 30 hr1 HQ.out (by have:=HC.bm;rwa [HQ.out] at this) (by omega) hg.out.size
     have HR:=jAa hrun
     have HG2:=jAa (kBt hg.out hr.out hg2)
     have HO2 : Hid (w2.ownsRow w.heap.size 5 1 v' (jQ5 l m 2).length (byU (jQ5 l m 2))):=by
      show World.ownsRow w2 w.heap.size 5 1 v' (l ++ m).length (byU (l ++ m))
      rw [HPQ.out,kBm]
      exact ho2
     clear hrun ho2 hg2 hat HC hr1
     go_wp2_with (at_builtin;refine Lib.wpList_append_run _ rfl _ _ _ _ rfl _ _ rfl rfl _ _ HR.out ?_)
     go_roundw
     case rel => exact ⟨2,by omega,rfl,HO2,HG2⟩
     case measure => simp [intOf]
    | 2,_ =>
     go_wp2
     go_ret
     exact ⟨_,rfl,hr.out,hg.out⟩
end
section
open Go.RowKit
theorem stR_ {ops : Array Oper} {rest : List Oper} {o : Oper} {a : Act} {w : World} {Q : Exit → Act → World → Prop} (g : Nat) (e : Rv) (ea : Option Addr) (ek : Nat) (hgd : o.guard = none) (x y : Operand) (ho : o.op = .store 40 x y) (hx : a.eval x = .pointer (some ⟨g,0,none⟩)) (hy : a.eval y = .agg (rsC e ea ek)) {t : TypeId} (hg : w.heap[g]? = some (.cells (rsC jAg none 0) t)) (h : wpList Tryz.prog ops Q rest (a.put o.dst undef) (w.setRow g (rsC e ea ek))) : wpList Tryz.prog ops Q (o :: rest) a w:=wpList_store_row hgd 40 x y ho g (rsC e ea ek) hx hy t (rsC jAg none 0) hg (jNo e ea ek) rfl (kBb e ea ek) h
end
section
open Go.RowKit
theorem ldR {ops : Array Oper} {rest : List Oper} {o : Oper} {a : Act} {w : World} {Q : Exit → Act → World → Prop} (g : Nat) (e : Rv) (ea : Option Addr) (ek : Nat) (hgd : o.guard = none) (x : Operand) (ho : o.op = .load 40 x) (hx : a.eval x = .pointer (some ⟨g,0,none⟩)) {t : TypeId} {fr : Nat × Nat} (hg : w.heap[g]? = some (.cells (rsC e ea ek) t fr)) (h : wpList Tryz.prog ops Q rest (a.put o.dst (.agg (rsC e ea ek))) w) : wpList Tryz.prog ops Q (o :: rest) a w:=wpList_load_row hgd 40 x ho g hx t (rsC e ea ek) fr _ hg Tryz.underlying40 rfl (jNo e ea ek) h
end
section
open Go.RowKit
theorem ldC {ops : Array Oper} {rest : List Oper} {o : Oper} {a : Act} {w : World} {Q : Exit → Act → World → Prop} (g : Nat) (e : Cv) (ea : Option Addr) (ek : Nat) (hgd : o.guard = none) (x : Operand) (ho : o.op = .load 33 x) (hx : a.eval x = .pointer (some ⟨g,0,none⟩)) {t : TypeId} {fr : Nat × Nat} (hg : w.heap[g]? = some (.cells (cmC e ea ek) t fr)) (h : wpList Tryz.prog ops Q rest (a.put o.dst (.agg (cmC e ea ek))) w) : wpList Tryz.prog ops Q (o :: rest) a w:=wpList_load_row hgd 33 x ho g hx t (cmC e ea ek) fr _ hg Tryz.underlying33 rfl (jGz e ea ek) h
end
end Go.Proofs.YtkfeafmpaodagaaGreatDoor
