/- Places that are set, as bits of eight words of 64: over numbers and lists alone. Conditions: none. The contracts of package bloom, over a word 'Fil' that says which places a filter in memory has set. Nothing of the program is walked here. Conditions: none. How many bits of a word of 64 are set, reckoned by masks and sums as math/bits does it: over numbers alone. Conditions: the word is below 2 to the 64th. What the filter is in memory, and what New, Copy, Clear, Ones and a place's bit come to in package bloom. Conditions: none. The places of a text in package bloom: the sequence that is made, and what it tells, one by one, as long as one goes on: it ranges over hash.Several itself. Conditions: the text takes at most 140737488351232 bytes. What Has of package bloom answers. Conditions: the text takes at most 300 bytes. What Add of package bloom does, and with it all of the package's contracts. Conditions: the text takes at most 300 bytes. -/
import Derived.Test.YtkfeafmpaodagaaGreatDoorG03Joined
import Derived.Test.YtkfeafmpaodagaaGreatDoorG00Joined
import Derived.Laws.BitsAllLaws
import Derived.Laws.Tables
import Derived.Laws.Rows
import Derived.Laws.CopyRow
import Derived.Test.YtkfeafmpaodagaaGreatDoorG06Joined
import Derived.Stop.RegionWithIn
import Derived.Deep.RegionHeld3
import Derived.Test.YtkfeafmpaodagaaGreatDoorG01Joined
namespace Go.Proofs.YtkfeafmpaodagaaGreatDoor
set_option maxHeartbeats 16000000
section
structure jSg (ws : List Nat) (S : List Nat) : Prop where
 len : ws.length = 8
 lt : ∀ x ∈ ws,x < 18446744073709551616
 bit : ∀ p,p < 512 → (ws.getD (p / 64) 0).testBit (p % 64) = decide (p ∈ S)
theorem jXk : jSg [0,0,0,0,0,0,0,0] []:=by
 refine ⟨rfl,fun x hx => ?_,fun p hp => ?_⟩
 ·simp at hx
  omega
 ·have h : p / 64 < 8:=by omega
  have : [0,0,0,0,0,0,0,0].getD (p / 64) 0 = 0:=by
   match p / 64,h with
   | 0,_ | 1,_ | 2,_ | 3,_ | 4,_ | 5,_ | 6,_ | 7,_ => rfl
  rw [this,Nat.zero_testBit]
  rfl
theorem jLj {k : Nat} (h : k < 64) : 2 ^ k < 18446744073709551616:=by
 have : 2 ^ k < 2 ^ 64:=Nat.pow_lt_pow_right (by decide) h
 omega
theorem or_lt {a b : Nat} (ha : a < 18446744073709551616) (hb : b < 18446744073709551616) : a ||| b < 18446744073709551616:=by
 have h : a ||| b < 2 ^ 64:=Nat.or_lt_two_pow (by omega) (by omega)
 omega
theorem kKs {ws S : List Nat} (h : jSg ws S) (p : Nat) (hp : p < 512) : jSg (ws.set (p / 64) (ws.getD (p / 64) 0 ||| 2 ^ (p % 64))) (jJd S p):=by
 have hl : p / 64 < ws.length:=by rw [h.len];omega
 have hm : ws.getD (p / 64) 0 ∈ ws:=by
  simp only [List.getD,List.getElem?_eq_getElem hl,Option.getD_some]
  exact List.getElem_mem hl
 refine ⟨by rw [List.length_set];exact h.len,fun x hx => ?_,fun q hq => ?_⟩
 ·rcases List.mem_or_eq_of_mem_set hx with h1 | h1
  ·exact h.lt x h1
  ·rw [h1]
   exact or_lt (h.lt _ hm) (jLj (Nat.mod_lt _ (by decide)))
 ·have hins : decide (q ∈ jJd S p) = (decide (q ∈ S) || decide (q = p)):=by
   rw [← Bool.decide_or]
   exact decide_eq_decide.2 (jTl S p q)
  rw [hins]
  by_cases e : q / 64 = p / 64
  ·have hg : (ws.set (p / 64) (ws.getD (p / 64) 0 ||| 2 ^ (p % 64))).getD (q / 64) 0 = ws.getD (p / 64) 0 ||| 2 ^ (p % 64):=by
    rw [e]
    simp [List.getD,List.getElem?_set_self hl]
   rw [hg,Nat.testBit_or,← e,h.bit q hq,Nat.testBit_two_pow]
   congr 1
   exact decide_eq_decide.2 (by omega)
  ·have hg : (ws.set (p / 64) (ws.getD (p / 64) 0 ||| 2 ^ (p % 64))).getD (q / 64) 0 = ws.getD (q / 64) 0:=by
    simp only [List.getD,List.getElem?_set_ne (fun x : p / 64 = q / 64 => e x.symm)]
   rw [hg,h.bit q hq,decide_eq_false (show ¬ q = p by intro x;subst x;exact e rfl),Bool.or_false]
theorem kJm {ws S : List Nat} (h : jSg ws S) (p : Nat) (hp : p < 512) : (ws.getD (p / 64) 0 &&& 2 ^ (p % 64) = 0) ↔ ¬ p ∈ S:=by
 have hb:=h.bit p hp
 obtain ⟨x,hx⟩ : ∃ x,ws.getD (p / 64) 0 = x:=⟨_,rfl⟩
 obtain ⟨k,hk⟩ : ∃ k,p % 64 = k:=⟨_,rfl⟩
 rw [hx,hk] at hb
 rw [hx,hk]
 constructor
 ·intro h0 hm
  have h1 : (x &&& 2 ^ k).testBit k = false:=by rw [h0,Nat.zero_testBit]
  rw [Nat.testBit_and,hb,decide_eq_true hm,Nat.testBit_two_pow_self] at h1
  cases h1
 ·intro hm
  apply Nat.eq_of_testBit_eq
  intro i
  rw [Nat.testBit_and,Nat.testBit_two_pow,Nat.zero_testBit]
  by_cases e : k = i
  ·subst e
   rw [hb,decide_eq_false hm,Bool.false_and]
  ·rw [decide_eq_false e,Bool.and_false]
end
section
open Go.RowKit
structure jE8 (Fil : World → Nat → Nat → List Nat → Prop) : Prop where
 lt : ∀ {w b sd S},Fil w b sd S → b < w.heap.size
 good : ∀ {w b sd S},Fil w b sd S → jOs S ∧ sd < 18446744073709551616
 keep : ∀ {w w' b sd S},Fil w b sd S → w'.heap[b]? = w.heap[b]? → Fil w' b sd S
 new : ∀ (sd : Nat),sd < 18446744073709551616 → ∀ w : World,Calls Tryz.prog 49 #[.int .u64 sd] w fun e w' => ∃ b,e = .returned (.pointer (some ⟨b,0,none⟩)) ∧ w.heap.size ≤ b ∧ Fil w' b sd [] ∧ w.grownBy w' none
 add : ∀ {w b sd S},Fil w b sd S → ∀ s : ByteArray,s.size ≤ 140737488351232 → Calls Tryz.prog 90 #[.pointer (some ⟨b,0,none⟩),.string s] w fun e w' => e = .returned (.bool (jDz S (pls sd s.data.toList))) ∧ Fil w' b sd (jDs S (pls sd s.data.toList)) ∧ w.grownBy w' (some b)
 has : ∀ {w b sd S},Fil w b sd S → ∀ s : ByteArray,s.size ≤ 140737488351232 → Calls Tryz.prog 125 #[.pointer (some ⟨b,0,none⟩),.string s] w fun e w' => e = .returned (.bool (jDz S (pls sd s.data.toList))) ∧ Fil w' b sd S ∧ w.grownBy w' none
 clear : ∀ {w b sd S},Fil w b sd S → Calls Tryz.prog 92 #[.pointer (some ⟨b,0,none⟩)] w fun e w' => (∃ v,e = .returned v) ∧ Fil w' b sd [] ∧ w.grownBy w' (some b)
variable {Fil : World → Nat → Nat → List Nat → Prop}
theorem jE8.kept (L : jE8 Fil) {w w' : World} {b sd : Nat} {S : List Nat} {row : Option Nat} (h : Fil w b sd S) (hg : w.grownBy w' row) (hr : row ≠ some b) : Fil w' b sd S:=L.keep h (hg.block b (L.lt h) (fun e => hr e.symm))
end
section
end
section
open Go.RowKit
def jFb (sd : Nat) (ws : List Nat) : Array Value:=(.int .u64 sd :: ws.map fun x => .int .u64 (x : Nat)).toArray
def jF8 (w : World) (b sd : Nat) (S : List Nat) : Prop:=∃ ws : List Nat,jSg ws S ∧ jOs S ∧ sd < 18446744073709551616 ∧ w.heap[b]? = some (.cells (jFb sd ws) 157 (0,0))
theorem eight {ws : List Nat} (h : ws.length = 8) : ∃ a b c d e f g k,ws = [a,b,c,d,e,f,g,k]:=by
 match ws,h with
 | [a,b,c,d,e,f,g,k],_ => exact ⟨a,b,c,d,e,f,g,k,rfl⟩
theorem kOh (sd : Nat) (w : World) : Calls Tryz.prog 49 #[.int .u64 sd] w fun e w' => e = .returned (.pointer (some ⟨w.heap.size,0,none⟩)) ∧ w' = w.alloc (.cells (jFb sd [0,0,0,0,0,0,0,0]) 157):=by
 go_enter Tryz.func49,Tryz.ntmps49
 go_wp2
 go_ret
 exact ⟨rfl,rfl⟩
theorem kBx (p : Nat) (h : p < 512) (w : World) : Calls Tryz.prog 127 #[.int .i64 p] w fun e w' => e = .returned (.int .u64 ((2 ^ (p % 64) : Nat) : Int)) ∧ w = w':=by
 have e : IntKind.u64.wrap ((2 : Int) ^ (p % 64)) = ((2 ^ (p % 64) : Nat) : Int):=by
  have h1:=jLj (show p % 64 < 64 by omega)
  have h2 : (2 : Int) ^ (p % 64) = ((2 ^ (p % 64) : Nat) : Int):=by simp
  obtain ⟨m,hm⟩ : ∃ m,m = 2 ^ (p % 64):=⟨_,rfl⟩
  rw [IntKind.wrap_u64,h2,← hm]
  rw [← hm] at h1
  omega
 have E:=jAa e
 clear e
 go_enter Tryz.func127,Tryz.ntmps127
 go_wp2
 go_ret
 refine ⟨?_,rfl⟩
 rw [← E.out]
 rfl
theorem kHs (b sd x0 x1 x2 x3 x4 x5 x6 x7 : Nat) (w : World) (hw : w.heap[b]? = some (.cells (jFb sd [x0,x1,x2,x3,x4,x5,x6,x7]) 157 (0,0))) :
  (Builtin.clear_ #[200] 0 #[.slice (some ⟨b,1,none⟩) 8 8]).run Tryz.prog w = .ok (.tuple #[]) (w.setRow b (jFb sd [0,0,0,0,0,0,0,0])):=by
 have hst:=run_storeCells_at Tryz.prog b 1 157 [.int .u64 0,.int .u64 0,.int .u64 0,.int .u64 0,.int .u64 0,.int .u64 0,.int .u64 0,.int .u64 0] 0 _ w hw (by simp [jFb]) (by simp [Value.oneCell'])
 have hst2 : (storeCells ⟨b,1,none⟩ [.int .u64 0,.int .u64 0,.int .u64 0,.int .u64 0,.int .u64 0,.int .u64 0,.int .u64 0,.int .u64 0] 0).run Tryz.prog w = .ok () (w.setRow b (jFb sd [0,0,0,0,0,0,0,0])):=hst
 have hz : (zeroValue 22).run Tryz.prog w = .ok (.int .u64 0) w:=by kernel_rfl
 have hc : (Builtin.zeroCells (Value.int .u64 0).cells 8).toList = [.int .u64 0,.int .u64 0,.int .u64 0,.int .u64 0,.int .u64 0,.int .u64 0,.int .u64 0,.int .u64 0]:=by kernel_rfl
 simp [Builtin.clear_,run_underlying Tryz.underlying200,hz,hc,hst2,Result.andThen]
theorem jYh (w : World) (b : Nat) (cs : Array Value) : w.grownBy (w.setRow b cs) (some b) :=
 ⟨rfl,rfl,rfl,by simp [World.setRow],fun k _ hk => setRow_other w b k cs (fun e => hk (by rw [e]))⟩
theorem kH6 (b sd x0 x1 x2 x3 x4 x5 x6 x7 : Nat) (w : World) (hw : w.heap[b]? = some (.cells (jFb sd [x0,x1,x2,x3,x4,x5,x6,x7]) 157 (0,0))) : Calls Tryz.prog 92 #[.pointer (some ⟨b,0,none⟩)] w fun e w' => (∃ v,e = .returned v) ∧ w'.heap[b]? = some (.cells (jFb sd [0,0,0,0,0,0,0,0]) 157 (0,0)) ∧ w.grownBy w' (some b):=by
 have h1:=kHs b sd x0 x1 x2 x3 x4 x5 x6 x7 w hw
 have h2:=setRow_heap w b _ (jFb sd [0,0,0,0,0,0,0,0]) _ _ hw
 have h3:=jYh w b (jFb sd [0,0,0,0,0,0,0,0])
 clear hw
 go_enter Tryz.func92,Tryz.ntmps92
 go_wp2
 go_end0
 exact ⟨⟨_,rfl⟩,h2,h3⟩
theorem jSa {w : World} {b sd : Nat} {S : List Nat} (h : jF8 w b sd S) : b < w.heap.size:=by
 obtain ⟨_,_,_,_,h⟩:=h
 exact (Array.getElem?_eq_some_iff.1 h).1
theorem kJe {w : World} {b sd : Nat} {S : List Nat} (h : jF8 w b sd S) : jOs S ∧ sd < 18446744073709551616:=by
 obtain ⟨_,_,h1,h2,_⟩:=h
 exact ⟨h1,h2⟩
theorem jGo {w w' : World} {b sd : Nat} {S : List Nat} (h : jF8 w b sd S) (e : w'.heap[b]? = w.heap[b]?) : jF8 w' b sd S:=by
 obtain ⟨ws,h1,h2,h3,h4⟩:=h
 exact ⟨ws,h1,h2,h3,e.trans h4⟩
theorem kM7 (sd : Nat) (h : sd < 18446744073709551616) (w : World) : Calls Tryz.prog 49 #[.int .u64 sd] w fun e w' => ∃ b,e = .returned (.pointer (some ⟨b,0,none⟩)) ∧ w.heap.size ≤ b ∧ jF8 w' b sd [] ∧ w.grownBy w' none:=by
 refine (kOh sd w).mono ?_
 rintro e w' ⟨rfl,rfl⟩
 exact ⟨_,rfl,Nat.le_refl _,⟨_,jXk,jOc,h,heap_alloc_new w _⟩,World.grownBy_alloc w _ none⟩
theorem kHb {w : World} {b sd : Nat} {S : List Nat} (h : jF8 w b sd S) : Calls Tryz.prog 92 #[.pointer (some ⟨b,0,none⟩)] w fun e w' => (∃ v,e = .returned v) ∧ jF8 w' b sd [] ∧ w.grownBy w' (some b):=by
 obtain ⟨ws,h1,_,h3,h4⟩:=h
 obtain ⟨x0,x1,x2,x3,x4,x5,x6,x7,rfl⟩:=eight h1.len
 refine (kH6 b sd x0 x1 x2 x3 x4 x5 x6 x7 w h4).mono ?_
 rintro e w' ⟨hv,hc,hg⟩
 exact ⟨hv,⟨_,jXk,jOc,h3,hc⟩,hg⟩
end
section
open Go.RowKit Go.Shelf
attribute [local go_sem] Oper.semAt_some
theorem jQt (n b : Nat) (s : ByteArray) (w : World) :
  CallsIn Fence.wide n Tryz.prog 126 #[.pointer (some ⟨b,0,none⟩),.string s] w fun e w' =>
   e = .returned (.func (.func 159) #[] #[.pointer (some ⟨w.heap.size,0,none⟩),.pointer (some ⟨w.heap.size + 1,0,none⟩)]) ∧
   w' = (w.alloc (.cells #[.pointer (some ⟨b,0,none⟩)] 111)).alloc (.cells #[.string s] 9):=by
 refine callsIn_of_wp Tryz.func126 rfl trivial ?_ rfl
 simp only [Tryz.ntmps126,List.size_toArray,List.length_cons,List.length_nil,Nat.reduceAdd,Nat.reduceSub,Array.replicate_succ,Array.replicate_zero,List.push_toArray,List.append_toArray,List.nil_append,List.cons_append]
 gi_wp2
 go_ret
 exact ⟨rfl,rfl⟩
def plV (sd : Nat) (l : List UInt8) (k : Nat) : Array Value:=#[.int .i64 (jB0 sd l k : Nat)]
theorem jZx (sd : Nat) (l : List UInt8) (k : Nat) : jFi (jNa sd l k) 512 = ((jB0 sd l k : Nat) : Int):=by
 unfold jFi jB0 jNa
 rw [if_neg (by decide)]
 omega
set_option maxRecDepth 100000 in
theorem kDa (l Bf Bs b sd : Nat) (s : ByteArray) (hs : s.size ≤ 140737488351232) (J Jx : List Nat → World → Prop) (W : World) (hJ : OwnFrom W.heap.size J) (hJx : OwnFrom W.heap.size Jx)
  (hY : ∀ pre x V,J pre V → pre.length < 3 → YieldAt Fence.wide (5 - 1) Tryz.prog l (plV sd s.data.toList x) V fun e V' =>
   jCa W.heap.size V V' ∧ ((e = .returned (.bool true) ∧ J (pre ++ [x]) V') ∨ (e = .returned (.bool false) ∧ Jx (pre ++ [x]) V')))
  (cf : W.cell? ⟨Bf,0,none⟩ = some (.pointer (some ⟨b,0,none⟩))) (cs : W.cell? ⟨Bs,0,none⟩ = some (.string s)) (cd : W.cell? ⟨b,0,none⟩ = some (.int .u64 sd)) (h0 : J [] W) :
  CallsIn Fence.wide 5 Tryz.prog 159 #[.func (.yield l) #[] #[],.pointer (some ⟨Bf,0,none⟩),.pointer (some ⟨Bs,0,none⟩)] W fun e W' => (∃ v,e = .returned v) ∧
   ((∃ ys,ys = List.range 3 ∧ J ys W') ∨ (∃ pre,pre <+: List.range 3 ∧ Jx pre W')):=by
 refine callsIn_of_wp_marks Tryz.func159 rfl trivial ?_ rfl
 simp only [Tryz.ntmps159,List.size_toArray,List.length_cons,List.length_nil,Nat.reduceAdd,Nat.reduceSub,Array.replicate_succ,Array.replicate_zero,List.push_toArray,List.append_toArray,List.nil_append,List.cons_append]
 gi_wp2
 obtain ⟨W1,hW1,bg,sz1,_,cl1,own1⟩:=box1 W (.func (.yield l) #[] #[]) 44
 have cf1:=cl1 _ _ cf
 have cs1:=cl1 _ _ cs
 have cd1:=cl1 _ _ cd
 have j1:=own1 hJ h0
 rw [hW1]
 clear hW1 cl1 own1 cf cs cd h0
 refine Code.wpIn_mono (jWk.imp (b:={ tmps:=#[.func (.yield l) #[] #[],.pointer (some ⟨Bf,0,none⟩),.pointer (some ⟨Bs,0,none⟩),.pointer (some ⟨W.heap.size,0,none⟩),undef,undef,.pointer (some ⟨b,0,none⟩),.pointer (some ⟨b,0,none⟩),.pointer (some ⟨b,0,none⟩),.int .u64 sd,.string s,.func (.func 190) #[] #[.pointer (some ⟨W.heap.size + 1 + 1 + 1,0,none⟩),.pointer (some ⟨W.heap.size + 1,0,none⟩),.pointer (some ⟨W.heap.size + 1 + 1,0,none⟩)],undef,undef,undef,undef,undef,undef,undef],defers:=[] })
  (v:=(((W1.alloc (.cells #[.int .u64 sd] 22)).alloc (.cells #[.string s] 9)).alloc (.cells #[.int .i64 3] 3)).drew) ?rest) ?region
 case region =>
  gi_region_with (refine ⟨trivial,?_⟩;gi_at_call 160;refine (jPd (5 - 1) sd s 3 _).mono ?_;rintro e w1 ⟨rfl,rfl⟩)
  all_goals exact ⟨rfl,rfl⟩
 obtain ⟨W2,hW2,bd,bs,bm,sz2,bk2,own2⟩:=kIr W1 sd s 3
 have bg2:=bk2 bg
 have j2:=own2 hJ j1
 gi_wp2
 rw [hW2]
 clear hW2 bk2 own2 cf1 cs1 cd1 j1 bg
 rw [sz1] at bd bs bm sz2
 refine wpIn_rangeFunc_ownG rfl (by decide) (gf:=190) (lb:=#[.pointer (some ⟨W.heap.size + 1 + 1 + 1,0,none⟩),.pointer (some ⟨W.heap.size + 1,0,none⟩),.pointer (some ⟨W.heap.size + 1 + 1,0,none⟩)]) rfl trivial (enters_of Tryz.func190 (by kernel_rfl) rfl)
  (jV2 (5 - 1) (by decide) _ _ _ sd s hs 3 (by decide) W2 (by omega) (by omega) (by omega) bm.cell bd.cell bs.cell) jQs (jQl (by omega) (by omega)) (Below.refl _ _) (fun _ => rfl)
  (fun pre V => J pre V ∧ (Boxed V W.heap.size 44 (.func (.yield l) #[] #[]) ∧ (Boxed V (W.heap.size + 1) 22 (.int .u64 sd) ∧ Boxed V (W.heap.size + 1 + 1) 9 (.string s))))
  (fun c pre V => c = .ret ∧ Jx pre V)
  (OwnFrom.and (jJ2 hJ (by omega)) (OwnFrom.and (Own.from (boxed_own _ _ (fun _ => _)) _) (OwnFrom.and (Own.from (boxed_own _ _ (fun _ => _)) _) (Own.from (boxed_own _ _ (fun _ => _)) _))))
  (fun c => OwnFrom.and (ownFrom_pure _ _) (jJ2 hJx (by omega)))
  ⟨j2,bg2,bd,bs⟩ ?a1 ?assign ?body ?done ?stop
 case assign =>
  intro l2 x V K hK
  unfold jO2
  gi_wp2
  exact hK
 case body =>
  rintro l2 pre x V ⟨hj,hg,hd,hss⟩ hlt
  have hcg:=hg.cell
  obtain ⟨fn,tmps,assign,body,hy,hR⟩:=jQ0 2 (hY pre x V.drew (jRm hJ hj) hlt)
  unfold plV at hy
  have E:=jAa (jZx sd s.data.toList x)
  have hh : jNa sd s.data.toList x < 18446744073709551616:=jP8 _ _
  generalize jNa sd s.data.toList x = h at *
  have hmix : Tryz.prog.follows .mixedOrders = true:=by kernel_rfl
  have hR2:=hR.mono (R':=fun e V' => ∃ q : Bool,e = .returned (.bool q) ∧ Hid (jCa W.heap.size V.drew V' ∧ ((q = true ∧ J (pre ++ [x]) V') ∨ (q = false ∧ Jx (pre ++ [x]) V')))) (by
   rintro e V' ⟨h1,⟨rfl,h2⟩ | ⟨rfl,h2⟩⟩
   ·exact ⟨true,rfl,h1,.inl ⟨rfl,h2⟩⟩
   ·exact ⟨false,rfl,h1,.inr ⟨rfl,h2⟩⟩)
  clear hR hY
  gi_wp2
  gi_region_with_o (first
   | (refine ⟨trivial,?_⟩;gi_at_call 156;refine (CallsIn.inRound l2 (callsIn_wide.2 (jKs h hh 512 (by decide) (by decide) _))).mono ?_;rintro e w' ⟨rfl,rfl⟩;rw [E.out])
   | (refine hR2.mono ?_;rintro e V' ⟨q,rfl,HQ⟩))
  all_goals
   obtain ⟨hsn,hq⟩:=HQ.out
   have hsv:=(jCa.drew W.heap.size V).trans hsn
   clear hsn hy hR2 HQ
   rcases hq with ⟨rfl,hj'⟩ | ⟨rfl,hj'⟩
   ·gi_wp2
    exact ⟨hsv.keeps (by omega),jPp hd hss (hsv.boxed (by omega) hd) (hsv.boxed (by omega) hss),hj',hsv.boxed (by omega) hg,hsv.boxed (by omega) hd,hsv.boxed (by omega) hss⟩
   ·gi_wp2
    exact ⟨hsv.keeps (by omega),rfl,hj'⟩
 case done =>
  rintro D ys V hD rfl ⟨hj,hg,hd,hss⟩ hK
  gi_wp2
  refine ⟨by simp,.inl ⟨_,_,rfl,run_takeDeferred hK,?_⟩⟩
  exact ⟨_,results_none rfl _ _ _,⟨_,rfl⟩,.inl ⟨_,rfl,jI3 hJ _ hj (by omega) hK rfl⟩⟩
 case stop =>
  rintro D c pre V hD hpre ⟨rfl,hj⟩ hK
  gi_wp2
  refine ⟨by simp,.inl ⟨_,_,rfl,run_takeDeferred hK,?_⟩⟩
  exact ⟨_,results_none rfl _ _ _,⟨_,rfl⟩,.inr ⟨_,hpre,jI3 hJx _ hj (by omega) hK rfl⟩⟩
theorem jSc (Bf Bs b sd : Nat) (s : ByteArray) (hs : s.size ≤ 140737488351232) (w : World) (cf : w.cell? ⟨Bf,0,none⟩ = some (.pointer (some ⟨b,0,none⟩))) (cs : w.cell? ⟨Bs,0,none⟩ = some (.string s)) (cd : w.cell? ⟨b,0,none⟩ = some (.int .u64 sd)) :
  jYb Fence.wide 5 Tryz.prog 159 #[.pointer (some ⟨Bf,0,none⟩),.pointer (some ⟨Bs,0,none⟩)] (plV sd s.data.toList) (fun ys => ys = List.range 3) (fun pre => pre <+: List.range 3) 3 w:=fun l J Jx W hW hJ hJx hY h0 =>
 kDa l Bf Bs b sd s hs J Jx W hJ hJx hY ((hW.cell (p:=⟨Bf,0,none⟩) (block_lt_of_cell cf)).trans cf) ((hW.cell (p:=⟨Bs,0,none⟩) (block_lt_of_cell cs)).trans cs) ((hW.cell (p:=⟨b,0,none⟩) (block_lt_of_cell cd)).trans cd) h0
end
section
open Go.RowKit Go.Shelf
attribute [local go_sem] Oper.semAt_some
theorem kN6 (w : World) (v : Value) (s : ByteArray) : ∃ V,(((w.alloc (.cells #[v] 111)).alloc (.cells #[.bool false] 4)).alloc (.cells #[v] 111)).alloc (.cells #[.string s] 9) = V ∧
  Boxed V w.heap.size 111 v ∧ Boxed V (w.heap.size + 1) 4 (.bool false) ∧ Boxed V (w.heap.size + 1 + 1) 111 v ∧ Boxed V (w.heap.size + 1 + 1 + 1) 9 (.string s) ∧ V.heap.size = w.heap.size + 4 ∧ w.grownBy V none:=by
 refine ⟨_,rfl,?_⟩
 have b0:=Boxed.new w 111 v
 have b1:=Boxed.new (w.alloc (.cells #[v] 111)) 4 (.bool false)
 have b2:=Boxed.new ((w.alloc (.cells #[v] 111)).alloc (.cells #[.bool false] 4)) 111 v
 have b3:=Boxed.new (((w.alloc (.cells #[v] 111)).alloc (.cells #[.bool false] 4)).alloc (.cells #[v] 111)) 9 (.string s)
 simp only [World.size_alloc] at b1 b2 b3
 exact ⟨((b0.alloc _).alloc _).alloc _,(b1.alloc _).alloc _,b2.alloc _,b3,by simp only [World.size_alloc],jAt (jAt (jAt (World.grownBy_alloc _ _ _) (World.grownBy_alloc _ _ _)) (World.grownBy_alloc _ _ _)) (World.grownBy_alloc _ _ _)⟩
theorem kKf {w : World} {b sd : Nat} {S : List Nat} (h : jF8 w b sd S) (p : Nat) (hp : p < 512) : ∃ x : Nat,w.cell? ⟨b,1 + p / 64,none⟩ = some (.int .u64 x) ∧ x < 18446744073709551616 ∧ (x &&& 2 ^ (p % 64) = 0 ↔ ¬ p ∈ S):=by
 obtain ⟨ws,h1,_,_,h4⟩:=h
 have hl : p / 64 < ws.length:=by rw [h1.len];omega
 have hg : ws.getD (p / 64) 0 = ws[p / 64]:=by simp [List.getD,List.getElem?_eq_getElem hl]
 refine ⟨ws.getD (p / 64) 0,?_,?_,kJm h1 p hp⟩
 ·rw [cell_of_row w b _ _ _ _ h4,hg]
  simp [jFb,Nat.add_comm 1,hl]
 ·rw [hg]
  exact h1.lt _ (List.getElem_mem hl)
theorem jX4 {w : World} {b sd : Nat} {S : List Nat} (h : jF8 w b sd S) : w.cell? ⟨b,0,none⟩ = some (.int .u64 sd):=by
 obtain ⟨ws,_,_,_,h4⟩:=h
 rw [cell_of_row w b _ _ _ _ h4]
 rfl
theorem kJx {S : List Nat} {sd : Nat} {l : List UInt8} (h : ∀ k ∈ List.range 3,jB0 sd l k ∈ S) : jDz S (pls sd l) = true:=by
 refine (jXq _ _).2 fun p hp => ?_
 have : pls sd l = (List.range 3).map (jB0 sd l):=rfl
 rw [this] at hp
 obtain ⟨k,hk,rfl⟩:=List.mem_map.1 hp
 exact h k hk
theorem kMt {S : List Nat} {sd : Nat} {l : List UInt8} {pre : List Nat} (hp : pre <+: List.range 3) (h : ∃ k ∈ pre,¬ jB0 sd l k ∈ S) : jDz S (pls sd l) = false:=by
 obtain ⟨k,hk,hn⟩:=h
 cases e : jDz S (pls sd l) with
 | false => rfl
 | true =>
  have:=(jXq _ _).1 e (jB0 sd l k) (by
   have e2 : pls sd l = (List.range 3).map (jB0 sd l):=rfl
   rw [e2]
   exact List.mem_map_of_mem (hp.subset hk))
  exact (hn this).elim
theorem jY3 (b q : Nat) (h : q < 8) (W : World) : (Instr.indexAt 155 (.pointer (some ⟨b,1,none⟩)) (.int .i64 (q : Int))).run Tryz.prog W = .ok (.pointer (some ⟨b,1 + q,none⟩)) W:=by
 have h8 : q = 0 ∨ q = 1 ∨ q = 2 ∨ q = 3 ∨ q = 4 ∨ q = 5 ∨ q = 6 ∨ q = 7:=by omega
 clear h
 rcases h8 with rfl | rfl | rfl | rfl | rfl | rfl | rfl | rfl <;> (show _ = _;kernel_rfl)
theorem jYi (p : Nat) (h : p < 512) : ((p : Int) / 64) = ((p / 64 : Nat) : Int) ∧ (p : Int).tdiv 64 = ((p / 64 : Nat) : Int) ∧ Value.int .i64 (IntKind.i64.wrap ((p / 64 : Nat) : Int)) = .int .i64 ((p / 64 : Nat) : Int) ∧ p / 64 < 8:=by
 have h1 : ((p : Int) / 64) = ((p / 64 : Nat) : Int):=by omega
 have h2 : p / 64 < 8:=by omega
 refine ⟨h1,by rw [Int.tdiv_eq_ediv_of_nonneg (by omega)];exact h1,by rw [kK9 _ (Nat.lt_trans h2 (by decide))],h2⟩
set_option maxRecDepth 100000 in
theorem kBs {w : World} {b sd : Nat} {S : List Nat} (hF : jF8 w b sd S) (s : ByteArray) (hs : s.size ≤ 140737488351232) : Calls Tryz.prog 125 #[.pointer (some ⟨b,0,none⟩),.string s] w fun e w' => e = .returned (.bool (jDz S (pls sd s.data.toList))) ∧ jF8 w' b sd S ∧ w.grownBy w' none:=by
 refine (callsIn_wide (n:=6)).1 ?_
 have hlt:=jSa hF
 refine callsIn_of_wp_marks Tryz.func125 rfl trivial ?_ rfl
 simp only [Tryz.ntmps125,List.size_toArray,List.length_cons,List.length_nil,Nat.reduceAdd,Nat.reduceSub,Array.replicate_succ,Array.replicate_zero,List.push_toArray,List.append_toArray,List.nil_append,List.cons_append]
 gi_wp2_with (refine ⟨trivial,?_⟩;gi_at_call 126;refine (jQt (6 - 1) b s _).mono ?_;rintro e w1 ⟨rfl,rfl⟩)
 obtain ⟨W0,hW0,bf,br,bf2,bs,sz0,hg0⟩:=kN6 w (.pointer (some ⟨b,0,none⟩)) s
 rw [hW0]
 clear hW0
 have hRB : w.heap.size + 1 < W0.heap.size:=by rw [sz0];exact Nat.add_lt_add_left (by decide) _
 have hF0:=jGo hF (hg0.block b hlt (by simp))
 refine jMr rfl (by decide) (gf:=159) (lb:=#[.pointer (some ⟨w.heap.size + 1 + 1,0,none⟩),.pointer (some ⟨w.heap.size + 1 + 1 + 1,0,none⟩)]) rfl trivial (enters_of Tryz.func159 (by kernel_rfl) rfl)
  (jSc _ _ b sd s (Nat.le_trans hs (by decide)) W0 bf2.cell bs.cell (jX4 hF0)) (Below.refl _ _) (fun _ => rfl)
  (fun pre V => (Boxed V w.heap.size 111 (.pointer (some ⟨b,0,none⟩)) ∧ Boxed V (w.heap.size + 1) 4 (.bool false)) ∧ ((∀ k ∈ pre,jB0 sd s.data.toList k ∈ S) ∧ w.grownBy V none))
  (fun c pre V => (c = .ret ∧ ∃ k ∈ pre,¬ jB0 sd s.data.toList k ∈ S) ∧ (Boxed V (w.heap.size + 1) 4 (.bool false) ∧ w.grownBy V none))
  (OwnFrom.and (OwnFrom.and (Own.from (boxed_own _ _ (fun _ => _)) _) (Own.from (boxed_own _ _ (fun _ => _)) _)) (OwnFrom.and (ownFrom_pure _ _) (jKy hg0.size)))
  (fun c => OwnFrom.and (ownFrom_pure _ _) (OwnFrom.and (Own.from (boxed_own _ _ (fun _ => _)) _) (jKy hg0.size)))
  ⟨⟨bf,br⟩,(fun k hk => (List.not_mem_nil hk).elim),hg0⟩ ?a1 ?assign ?body ?done ?stop
 case assign =>
  intro l2 x V K hK
  unfold plV
  gi_wp2
  exact hK
 case body =>
  rintro l2 pre x V ⟨⟨hbf,hbr⟩,hall,hg⟩ hlen
  have hFV:=jGo hF (hg.block b hlt (by simp))
  have hp:=jR3 sd s.data.toList x
  obtain ⟨y,hcy,hy,hmem⟩:=kKf hFV (jB0 sd s.data.toList x) hp
  have hcf:=hbf.cell
  have hcr:=hbr.cell
  have hfr:=hbr.frozen
  have hmix : Tryz.prog.follows .mixedOrders = true:=by kernel_rfl
  have hB:=kBx (jB0 sd s.data.toList x) hp
  generalize hP : jB0 sd s.data.toList x = p at *
  have hm:=jLj (Nat.mod_lt p (by decide))
  generalize 2 ^ (p % 64) = m at *
  obtain ⟨hq,hqt,hqw,hq8⟩:=jYi p hp
  have hix:=jY3 b _ hq8
  generalize p / 64 = q at *
  clear hq8
  have E : Value.int .u64 (bits .and .u64 (y : Int) (m : Int)) = .int .u64 ((y &&& m : Nat) : Int):=by rw [u64_and_nat y m hy hm]
  generalize y &&& m = z at *
  clear hm hy
  have HC : ∀ k : Nat,CallsIn Fence.wide (4 - 1) Tryz.prog 127 #[.int .i64 p] (V.drewN k) fun e w' => e = .returned (.int .u64 (m : Int)) ∧ w' = V.drewN k:=fun k => (callsIn_wide.2 (hB _)).mono fun e w' h => ⟨h.1,h.2.symm⟩
  clear hB
  have hwf : ∀ f,Fence.wide.fn f:=fun _ => trivial
  by_cases hz : z = 0
  ·have hnot:=jAa (hmem.1 hz)
   subst hz
   clear hmem
   gi_wp2
   refine jHc 10 _ l2 rfl rfl (by kernel_rfl) (by kernel_rfl) ?_
   simp only [List.take_succ_cons,List.take_zero]
   repeat (gi_big_quiet_step ((gi_at_call 127;exact CallsIn.quiet_of_same (HC _))))
   refine wpQuietIn_nil ?_
   rintro _ ⟨nq,rfl⟩
   go_simp
   gi_wp2
   refine ⟨(jDr _ V nq).trans (jI9 _ _ hRB),⟨rfl,x,List.mem_append_right _ (List.mem_singleton.2 rfl),?_⟩,Boxed.set _ (show Boxed (V.drewN nq) _ _ _ from hbr),jG6 (jIz hg nq) (grownBy_setCell' _ _ _) (Nat.le_succ _)⟩
   rw [hP]
   exact hnot.out
  ·have hin:=jAa (Decidable.not_not.1 fun hn => hz (hmem.2 hn))
   have hzb : ((z : Int) == 0) = false:=kNc hz
   clear hmem hz
   gi_wp2
   refine jHc 10 _ l2 rfl rfl (by kernel_rfl) (by kernel_rfl) ?_
   simp only [List.take_succ_cons,List.take_zero]
   repeat (gi_big_quiet_step ((gi_at_call 127;exact CallsIn.quiet_of_same (HC _))))
   refine wpQuietIn_nil ?_
   rintro _ ⟨nq,rfl⟩
   go_simp
   gi_wp2
   refine ⟨jDr _ V nq,⟨hbf,hbr⟩,fun k hk => ?_,jIz hg nq⟩
   rcases List.mem_append.1 hk with h1 | h1
   ·exact hall k h1
   ·rw [List.mem_singleton.1 h1,hP]
    exact hin.out
 case done =>
  rintro D ys V hD rfl ⟨⟨hbf,hbr⟩,hall,hg⟩ hK
  have hcr:=hbr.cell
  have hfr:=hbr.frozen
  obtain ⟨l1,l2,l3⟩:=jS0 (b:=true) hbr (Nat.le_trans hg0.size hD) (Nat.ne_of_lt (Nat.lt_of_lt_of_le hRB hD)) (Nat.le_succ _) (jDv hg) hK
  have hh:=jAa (kJx hall)
  clear hall
  gi_wp2
  refine ⟨by simp,.inl ⟨_,_,rfl,run_takeDeferred l1,?_⟩⟩
  refine ⟨.bool true,?_,by rw [hh.out],jGo hF ((jFw l3).block b hlt (by simp)),jFw l3⟩
  rw [jPm rfl]
  go_simp
 case stop =>
  rintro D c pre V hD hpre ⟨⟨rfl,hex⟩,hbr,hg⟩ hK
  have hh:=jAa (kMt hpre hex)
  have hg2:=jG6 hg (grownBy_putObj' V D (.deferred none)) (Nat.le_trans hg0.size hD)
  have hbr2 : (V.putObj D (.deferred none)).cell? ⟨w.heap.size + 1,0,none⟩ = some (.bool false):=by
   rw [World.cell?_of_block (w:=V) (World.putObj_heap_other (Nat.ne_of_lt (Nat.lt_of_lt_of_le hRB hD)))]
   exact hbr.cell
  clear hex
  gi_wp2
  refine ⟨by simp,.inl ⟨_,_,rfl,run_takeDeferred hK,?_⟩⟩
  refine ⟨.bool false,?_,by rw [hh.out],jGo hF (hg2.block b hlt (by simp)),hg2⟩
  rw [jPm rfl]
  go_simp
end
section
open Go.RowKit Go.Shelf
attribute [local go_sem] Oper.semAt_some
theorem kHu (sd : Nat) (ws : List Nat) (q y : Nat) : (jFb sd ws).setIfInBounds (1 + q) (.int .u64 (y : Int)) = jFb sd (ws.set q y):=by
 unfold jFb
 rw [List.setIfInBounds_toArray,Nat.add_comm,List.set_cons_succ,List.map_set]
theorem kFq {w : World} {b sd : Nat} {S : List Nat} (h : jF8 w b sd S) (p : Nat) (hp : p < 512) : ∃ y : Nat,w.cell? ⟨b,1 + p / 64,none⟩ = some (.int .u64 y) ∧ w.frozen? ⟨b,1 + p / 64,none⟩ = false ∧ y < 18446744073709551616 ∧
  ∀ k : Nat,jF8 ((w.drewN k).setCell ⟨b,1 + p / 64,none⟩ (.int .u64 ((y ||| 2 ^ (p % 64) : Nat) : Int))) b sd (jJd S p):=by
 obtain ⟨ws,h1,h2,h3,h4⟩:=h
 have hl : p / 64 < ws.length:=by rw [h1.len];omega
 have hg : ws.getD (p / 64) 0 = ws[p / 64]:=by simp [List.getD,List.getElem?_eq_getElem hl]
 refine ⟨ws.getD (p / 64) 0,?_,frozen_of_row w b _ _ _ h4,?_,fun k => ⟨_,kKs h1 p hp,?_,h3,?_⟩⟩
 ·rw [cell_of_row w b _ _ _ _ h4,hg]
  simp [jFb,Nat.add_comm 1,hl]
 ·rw [hg]
  exact h1.lt _ (List.getElem_mem hl)
 ·refine ⟨jUc h2.1 p,fun x hx => ?_⟩
  rcases (jTl S p x).1 hx with h5 | rfl
  ·exact h2.2 x h5
  ·exact hp
 ·rw [heap_setCell_same (w.drewN k) b _ _ _ _ h4,kHu]
theorem kN4 {β : Type} {B b sd : Nat} (f : β → List Nat) (h : b < B) : OwnFrom B (fun (s : β) V => jF8 V b sd (f s)):=fun s W W' row hs hg hr =>
 jGo hs (hg.block b (jSa hs) (fun e => by have:=(hr b e.symm).1;omega))
theorem kKk (S : List Nat) (sd : Nat) (l : List UInt8) (pre : List Nat) (x : Nat) : jDs S ((pre ++ [x]).map (jB0 sd l)) = jJd (jDs S (pre.map (jB0 sd l))) (jB0 sd l x):=by
 simp [jDs]
theorem kNa (w : World) (v : Value) (s : ByteArray) : ∃ V,(w.alloc (.cells #[v] 111)).alloc (.cells #[.string s] 9) = V ∧
  Boxed V w.heap.size 111 v ∧ Boxed V (w.heap.size + 1) 9 (.string s) ∧ w.grownBy V none:=by
 refine ⟨_,rfl,?_⟩
 have b0:=Boxed.new w 111 v
 have b1:=Boxed.new (w.alloc (.cells #[v] 111)) 9 (.string s)
 simp only [World.size_alloc] at b1
 exact ⟨b0.alloc _,b1,jAt (World.grownBy_alloc _ _ _) (World.grownBy_alloc _ _ _)⟩
set_option maxRecDepth 100000 in
theorem kOn {w : World} {b sd : Nat} {S : List Nat} (hF : jF8 w b sd S) (s : ByteArray) (hs : s.size ≤ 140737488351232) : Calls Tryz.prog 90 #[.pointer (some ⟨b,0,none⟩),.string s] w fun e w' => e = .returned (.bool (jDz S (pls sd s.data.toList))) ∧ jF8 w' b sd (jDs S (pls sd s.data.toList)) ∧ w.grownBy w' (some b):=by
 refine (callsIn_wide (n:=6)).1 ?_
 have hlt:=jSa hF
 have hg1:=World.grownBy_alloc w (.cells #[.pointer (some ⟨b,0,none⟩)] 111) none
 have bF:=Boxed.new w 111 (.pointer (some ⟨b,0,none⟩))
 have HH:=jAa (kBs (jGo hF (hg1.block b hlt (by simp))) s hs)
 have HS : Hid (jDs S ((List.range 3).map (jB0 sd s.data.toList)) = jDs S (pls sd s.data.toList)):=rfl
 generalize jDz S (pls sd s.data.toList) = had at *
 refine callsIn_of_wp_marks Tryz.func90 rfl trivial ?_ rfl
 simp only [Tryz.ntmps90,List.size_toArray,List.length_cons,List.length_nil,Nat.reduceAdd,Nat.reduceSub,Array.replicate_succ,Array.replicate_zero,List.push_toArray,List.append_toArray,List.nil_append,List.cons_append]
 gi_wp2_with (first
  | (refine ⟨trivial,?_⟩;gi_at_call 125;refine (callsIn_wide.2 HH.out).mono ?_;clear HH;rintro e w2 ⟨rfl,hF2,hg2⟩;have bF2:=bF.kept hg2 (by simp);have hcf2:=bF2.cell)
  | (refine ⟨trivial,?_⟩;gi_at_call 126;refine (jQt (6 - 1) b s _).mono ?_;rintro e w3 ⟨rfl,rfl⟩))
 obtain ⟨W0,hW0,bf2,bs,hgb⟩:=kNa w2 (.pointer (some ⟨b,0,none⟩)) s
 rw [hW0]
 have hg0 : w.grownBy W0 none:=jAt (jAt hg1 hg2) hgb
 have bf:=bF2.kept hgb (by simp)
 have hF0:=jGo hF (hg0.block b hlt (by simp))
 have hbf:=bf.lt
 have hbB:=Nat.lt_of_lt_of_le hlt hg0.size
 have hne : w.heap.size ≠ b:=Nat.ne_of_gt hlt
 clear hW0 hg1 hg2 hgb bF bF2 hcf2
 refine jMr rfl (by decide) (gf:=159) (lb:=#[.pointer (some ⟨w2.heap.size,0,none⟩),.pointer (some ⟨w2.heap.size + 1,0,none⟩)]) rfl trivial (enters_of Tryz.func159 (by kernel_rfl) rfl)
  (jSc _ _ b sd s (Nat.le_trans hs (by decide)) W0 bf2.cell bs.cell (jX4 hF0)) (Below.refl _ _) (fun _ => rfl)
  (fun pre V => Boxed V w.heap.size 111 (.pointer (some ⟨b,0,none⟩)) ∧ (jF8 V b sd (jDs S (pre.map (jB0 sd s.data.toList))) ∧ w.grownBy V (some b)))
  (fun _ _ _ => False)
  (OwnFrom.and (Own.from (boxed_own _ _ (fun _ => _)) _) (OwnFrom.and (kN4 _ hbB) (jKy hg0.size)))
  (fun _ _ _ _ _ hs _ _ => hs)
  ⟨bf,hF0,kIh hg0 _⟩ ?a1 ?assign ?body ?done ?stop
 case assign =>
  intro l2 x V K hK
  unfold plV
  gi_wp2
  exact hK
 case body =>
  rintro l2 pre x V ⟨hbv,hfv,hg⟩ hlen
  have hp:=jR3 sd s.data.toList x
  obtain ⟨y,hcy,hfy,hy,hnew⟩:=kFq hfv (jB0 sd s.data.toList x) hp
  have hcf:=hbv.cell
  have hB:=kBx (jB0 sd s.data.toList x) hp
  have hsn:=jAa (kKk S sd s.data.toList pre x)
  generalize hP : jB0 sd s.data.toList x = p at *
  have hm:=jLj (Nat.mod_lt p (show 0 < 64 by decide))
  generalize 2 ^ (p % 64) = m at *
  obtain ⟨hq,hqt,hqw,hq8⟩:=jYi p hp
  have hix:=jY3 b _ hq8
  generalize p / 64 = q at *
  have E : Value.int .u64 (bits .or .u64 (y : Int) (m : Int)) = .int .u64 ((y ||| m : Nat) : Int):=by rw [u64_or_nat y m hy hm]
  generalize y ||| m = z at *
  have HC : ∀ k : Nat,CallsIn Fence.wide (4 - 1) Tryz.prog 127 #[.int .i64 p] (V.drewN k) fun e w' => e = .returned (.int .u64 (m : Int)) ∧ w' = V.drewN k:=fun k => (callsIn_wide.2 (hB _)).mono fun e w' h => ⟨h.1,h.2.symm⟩
  have hwf : ∀ f,Fence.wide.fn f:=fun _ => trivial
  have HN:=jAa hnew
  clear hB hm hy hq8 hp hlen hnew
  gi_wp2
  refine jHc 13 _ l2 rfl rfl (by kernel_rfl) (by kernel_rfl) ?_
  simp only [List.take_succ_cons,List.take_zero]
  repeat (gi_big_quiet_step ((gi_at_call 127;exact CallsIn.quiet_of_same (HC _))))
  refine wpQuietIn_nil ?_
  rintro _ ⟨nq,rfl⟩
  go_simp
  gi_wp2
  refine ⟨(jDr _ V nq).trans (jI9 _ _ hbB),jLd hbv hne _,?_,jXm hg _⟩
  rw [hsn.out]
  exact HN.out nq
 case done =>
  rintro D ys V hD rfl ⟨hbv,hfv,hg⟩ hK
  rw [HS.out] at hfv
  have hDb : b ≠ D:=Nat.ne_of_lt (Nat.lt_of_lt_of_le hbB hD)
  gi_wp2
  refine ⟨by simp,.inl ⟨_,_,rfl,run_takeDeferred hK,?_⟩⟩
  exact ⟨_,results_tmp rfl _ _ _,rfl,jGo hfv (World.putObj_heap_other hDb),jG6 hg (grownBy_putObj' V D (.deferred none)) (Nat.le_trans hg0.size hD)⟩
 case stop =>
  rintro D c pre V _ _ h _
  exact h.elim
theorem kHd : jE8 jF8 where
 lt:=jSa
 good:=kJe
 keep:=jGo
 new:=kM7
 add:=kOn
 has:=kBs
 clear:=kHb
end
end Go.Proofs.YtkfeafmpaodagaaGreatDoor
