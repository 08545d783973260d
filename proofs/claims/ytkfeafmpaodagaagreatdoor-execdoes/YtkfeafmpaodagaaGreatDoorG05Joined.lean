/- What Mix, Of and Below of package hash answer. Conditions: numbers are of 64 bits, a text takes at most 140737488351232 bytes. Several of package hash: the numbers from 0 on, each with its hash, one by one, as long as one goes on. Conditions: the text takes at most 140737488351232 bytes. -/
import Derived.Test.YtkfeafmpaodagaaGreatDoorG00Joined
import Derived.Test.YtkfeafmpaodagaaGreatDoorG03Joined
import Derived.RangeFuncNested
import Derived.RangeFuncBound
import Derived.RangeFuncCalls
import Derived.RangeFuncLeaves
import Derived.RangeFuncBox
import Derived.Shelf.Abstract
import Derived.Shelf.RegionOpen
import Derived.OwnWalkIn
import Derived.TacticsInMore
import Derived.LoopNIn
import Derived.LoopIn
namespace Go.Proofs.YtkfeafmpaodagaaGreatDoor
set_option maxHeartbeats 16000000
section
open Go.RowKit
theorem jYt (n : Nat) (h : n < 18446744073709551616) :
  bits .xor .u64 (IntKind.u64.wrap (bits .xor .u64 (IntKind.u64.wrap (bits .xor .u64 (n : Int) ((n : Int) / 1073741824) * 13787848793156543929)) (IntKind.u64.wrap (bits .xor .u64 (n : Int) ((n : Int) / 1073741824) * 13787848793156543929) / 134217728) * 10723151780598845931))
   (IntKind.u64.wrap (bits .xor .u64 (IntKind.u64.wrap (bits .xor .u64 (n : Int) ((n : Int) / 1073741824) * 13787848793156543929)) (IntKind.u64.wrap (bits .xor .u64 (n : Int) ((n : Int) / 1073741824) * 13787848793156543929) / 134217728) * 10723151780598845931) / 2147483648) = ((jIt n : Nat) : Int):=by
 have e1 : bits .xor .u64 (n : Int) ((n : Int) / 1073741824) = ((xsh 30 n : Nat) : Int):=jQ6 30 1073741824 n (by decide) h
 rw [e1]
 have e2 : IntKind.u64.wrap (((xsh 30 n : Nat) : Int) * 13787848793156543929) = ((mul 13787848793156543929 (xsh 30 n) : Nat) : Int):=jR0 13787848793156543929 _
 rw [e2]
 obtain ⟨m,hm⟩ : ∃ m,m = mul 13787848793156543929 (xsh 30 n):=⟨_,rfl⟩
 have hm1 : m < 18446744073709551616:=by rw [hm];exact jSx _ _
 unfold jIt
 rw [← hm]
 have e3 : bits .xor .u64 (m : Int) ((m : Int) / 134217728) = ((xsh 27 m : Nat) : Int):=jQ6 27 134217728 m (by decide) hm1
 rw [e3]
 have e4 : IntKind.u64.wrap (((xsh 27 m : Nat) : Int) * 10723151780598845931) = ((mul 10723151780598845931 (xsh 27 m) : Nat) : Int):=jR0 10723151780598845931 _
 rw [e4]
 exact jQ6 31 2147483648 _ (by decide) (jSx _ _)
theorem jUk (h : Nat) (hh : h < 18446744073709551616) (c : UInt8) :
  IntKind.u64.wrap (bits .xor .u64 (h : Int) (IntKind.u64.wrap (c.toNat : Int)) * 1099511628211) = ((jP2 h c : Nat) : Int):=by
 have e : IntKind.u64.wrap (c.toNat : Int) = (c.toNat : Int):=by
  rw [IntKind.wrap_u64]
  have:=c.toNat_lt
  omega
 rw [e]
 rw [kLs h c.toNat hh (kNv c)]
 exact jR0 1099511628211 _
theorem jWt (l : List UInt8) (k : Nat) (h : k < l.length) (x : Nat) : jJq x (l.drop k) = jJq (jP2 x l[k]) (l.drop (k + 1)):=by
 rw [List.drop_eq_getElem_cons h]
 rfl
theorem kA5 (l : List UInt8) (k : Nat) (h : l.length ≤ k) (x : Nat) : jJq x (l.drop k) = x:=by
 rw [List.drop_of_length_le h]
 rfl
theorem kAw (n : Nat) (h : n < 18446744073709551616) (w : World) : Calls Tryz.prog 187 #[.int .u64 n] w fun e w' => e = .returned (.int .u64 (jIt n)) ∧ w = w':=by
 go_enter Tryz.func187,Tryz.ntmps187
 go_wp2
 go_ret
 rw [← jYt n h]
 exact ⟨rfl,rfl⟩
theorem jW0 (seed : Nat) (h : seed < 18446744073709551616) (s : ByteArray) (hs : s.size ≤ 140737488351232) (w : World) : Calls Tryz.prog 155 #[.int .u64 seed,.string s] w fun e w' => e = .returned (.int .u64 (ofN seed s.data.toList)) ∧ w = w':=by
 have HL : Hid (s.data.toList.length = s.size):=rfl
 go_enter Tryz.func155,Tryz.ntmps155
 go_wp2_with (go_at_call 187;refine (kAw _ (by assumption) _).mono ?_;rintro e w1 ⟨rfl,rfl⟩)
 go_loop [5,11] (fun x i => ∃ (k m : Nat),k ≤ s.size ∧ m < 18446744073709551616 ∧ i = .int .i64 k ∧ x = .int .u64 m ∧ Hid (jJq (jIt seed) s.data.toList = jJq m (s.data.toList.drop k)))
  (fun _ i => s.size - (intOf i).toNat)
 case atStart => exact ⟨0,jIt seed,Nat.zero_le _,jYx _,rfl,rfl,rfl⟩
 case round =>
  obtain ⟨k,m,hk,hm,rfl,rfl,HR⟩:=hrel
  by_cases hlt : k < s.size
  ·have HS : Hid (jJq (jIt seed) s.data.toList = jJq (jP2 m (s[k]'hlt)) (s.data.toList.drop (k + 1))):=by
    show _ = _
    rw [HR.out]
    exact jWt s.data.toList k hlt m
   have hw:=jAa (jUk m hm (s[k]'hlt))
   go_wp2
   go_round
   case rel => exact ⟨k + 1,_,by omega,kBr _ _,by go_num,by rw [← hw.out],HS⟩
   case measure => simp [intOf];omega
  ·have HE : Hid (jJq (jIt seed) s.data.toList = m):=by
    show _ = _
    rw [HR.out]
    exact kA5 s.data.toList k (by rw [HL.out];omega) m
   go_wp2_with (go_at_call 187;refine (kAw _ (by assumption) _).mono ?_;rintro e w1 ⟨rfl,rfl⟩)
   go_ret
   exact ⟨by unfold ofN;rw [HE.out];rfl,rfl⟩
def jFi (h : Nat) (n : Int) : Int:=if n < 1 then 0 else (h : Int) % n
theorem jKs (h : Nat) (hh : h < 18446744073709551616) (n : Int) (h0 : -9223372036854775808 ≤ n) (h1 : n < 9223372036854775808) (w : World) : Calls Tryz.prog 156 #[.int .u64 h,.int .i64 n] w fun e w' => e = .returned (.int .i64 (jFi h n)) ∧ w = w':=by
 unfold jFi
 by_cases hn : n < 1
 ·rw [if_pos hn]
  go_enter Tryz.func156,Tryz.ntmps156
  go_wp2
  go_ret
  exact ⟨rfl,rfl⟩
 ·rw [if_neg hn]
  have r0 : 0 ≤ (h : Int) % n:=Int.emod_nonneg _ (by omega)
  have r1 : (h : Int) % n < n:=Int.emod_lt_of_pos _ (by omega)
  have r2 : (h : Int) % n < 9223372036854775808:=by omega
  go_enter Tryz.func156,Tryz.ntmps156
  go_wp2
  go_ret
  exact ⟨rfl,rfl⟩
end
section
open Go.RowKit Go.Shelf
attribute [local go_sem] Oper.semAt_some
def jNa (seed : Nat) (l : List UInt8) (i : Nat) : Nat:=ofN ((seed + i) % 18446744073709551616) l
def jO2 (seed : Nat) (l : List UInt8) (i : Nat) : Array Value:=#[.int .i64 i,.int .u64 (jNa seed l i)]
theorem kEl (seed k : Nat) : IntKind.u64.wrap ((seed : Int) + (k : Int)) = (((seed + k) % 18446744073709551616 : Nat) : Int):=by
 rw [IntKind.wrap_u64]
 omega
def jGh (Bd Bs : Nat) (W W' : World) : Prop:=W'.cell? ⟨Bd,0,none⟩ = W.cell? ⟨Bd,0,none⟩ ∧ W'.cell? ⟨Bs,0,none⟩ = W.cell? ⟨Bs,0,none⟩
theorem kF8 {a b : Nat} (h : a ≤ b) : List.range a <+: List.range b:=by
 obtain ⟨c,rfl⟩:=Nat.le.dest h
 rw [List.range_add]
 exact List.prefix_append _ _
set_option maxRecDepth 100000 in
theorem kAk (n : Nat) (hn : 1 ≤ n) (l Bm Bd Bs : Nat) (seed : Nat) (s : ByteArray) (hs : s.size ≤ 140737488351232) (many : Int) (hm : many < 9223372036854775808) (U : Nat → Array Value) (hU : ∀ k,k < many.toNat → U k = jO2 seed s.data.toList k) (J Jx : List Nat → World → Prop)
  (hY : ∀ pre x W,J pre W → pre.length < many.toNat → YieldAt Fence.wide (n - 1) Tryz.prog l (U x) W fun e W' =>
   (e = .returned (.bool true) ∧ J (pre ++ [x]) W' ∧ jGh Bd Bs W W') ∨ (e = .returned (.bool false) ∧ Jx (pre ++ [x]) W'))
  (W : World) (hBm : W.cell? ⟨Bm,0,none⟩ = some (.int .i64 many)) (hBd : W.cell? ⟨Bd,0,none⟩ = some (.int .u64 seed)) (hBs : W.cell? ⟨Bs,0,none⟩ = some (.string s)) (h0 : J [] W) :
  CallsIn Fence.wide n Tryz.prog 190 #[.func (.yield l) #[] #[],.pointer (some ⟨Bm,0,none⟩),.pointer (some ⟨Bd,0,none⟩),.pointer (some ⟨Bs,0,none⟩)] W fun e W' => (∃ v,e = .returned v) ∧
   ((∃ ys,ys = List.range many.toNat ∧ J ys W') ∨ (∃ pre,pre <+: List.range many.toNat ∧ Jx pre W')):=by
 refine callsIn_of_wp Tryz.func190 rfl trivial ?_ rfl
 simp only [Tryz.ntmps190,List.size_toArray,List.length_cons,List.length_nil,Nat.reduceAdd,Nat.reduceSub,Array.replicate_succ,Array.replicate_zero,List.push_toArray,List.append_toArray,List.nil_append,List.cons_append]
 gi_wp2
 gi_loopw [7] (fun i wr => ∃ (k : Nat),k ≤ many.toNat ∧ i = .int .i64 k ∧ wr.cell? ⟨Bd,0,none⟩ = some (.int .u64 seed) ∧ wr.cell? ⟨Bs,0,none⟩ = some (.string s) ∧ J (List.range k) wr)
  (fun i _ => many.toNat - (intOf i).toNat)
 case atStart => exact ⟨0,Nat.zero_le _,rfl,hBd,hBs,h0⟩
 case round =>
  obtain ⟨k,hk,rfl,hcd,hcs,hJ⟩:=hrel
  clear hBm hBd hBs h0
  by_cases hlt : k < many.toNat
  ·have hki : (k : Int) < many:=by omega
   obtain ⟨fn,tmps,assign,body,hy,hR⟩:=hY (List.range k) k wr hJ (by rw [List.length_range];exact hlt)
   rw [← List.range_succ] at hR
   rw [hU k hlt] at hy
   obtain ⟨sd,hsd⟩ : ∃ sd : Nat,sd = (seed + k) % 18446744073709551616:=⟨_,rfl⟩
   have HW : Hid (IntKind.u64.wrap ((seed : Int) + (k : Int)) = (sd : Int)):=by
    rw [hsd]
    exact kEl seed k
   have e : jO2 seed s.data.toList k = #[.int .i64 k,.int .u64 (ofN sd s.data.toList)]:=by unfold jO2 jNa;rw [hsd]
   rw [e] at hy
   have hsl : sd < 18446744073709551616:=by omega
   have hk1 : k + 1 ≤ many.toNat:=hlt
   clear e hsd hJ
   gi_wp2_with (refine ⟨trivial,?_⟩;gi_at_call 155;rw [HW.out];refine (callsIn_wide.2 (jW0 sd hsl s hs _)).mono ?_;rintro e w' ⟨rfl,rfl⟩)
   refine hR.mono ?_
   rintro e W3 (⟨rfl,hJ3,hk3⟩ | ⟨rfl,hJx3⟩)
   ·have hcd3:=hk3.1.trans hcd
    have hcs3:=hk3.2.trans hcs
    gi_wp2
    go_roundw
    case rel => exact ⟨k + 1,hk1,by go_num,hcd3,hcs3,hJ3⟩
    case measure => simp [intOf];omega
   ·gi_wp2
    refine bodyPost_ret (results_none rfl _ _ _) rfl ?_
    exact ⟨⟨_,rfl⟩,.inr ⟨_,kF8 hk1,hJx3⟩⟩
  ·have hki : many ≤ (k : Int):=by omega
   have hkm : k = many.toNat:=by omega
   gi_wp2
   go_end0
   exact ⟨⟨_,rfl⟩,.inl ⟨_,by rw [← hkm],hJ⟩⟩
theorem jPd (n : Nat) (seed : Nat) (s : ByteArray) (many : Int) (w : World) :
  CallsIn Fence.wide n Tryz.prog 160 #[.int .u64 seed,.string s,.int .i64 many] w fun e w' =>
   e = .returned (.func (.func 190) #[] #[.pointer (some ⟨w.heap.size + 1 + 1,0,none⟩),.pointer (some ⟨w.heap.size,0,none⟩),.pointer (some ⟨w.heap.size + 1,0,none⟩)]) ∧
   w' = ((w.alloc (.cells #[.int .u64 seed] 22)).alloc (.cells #[.string s] 9)).alloc (.cells #[.int .i64 many] 3):=by
 refine callsIn_of_wp Tryz.func160 rfl trivial ?_ rfl
 simp only [Tryz.ntmps160,List.size_toArray,List.length_cons,List.length_nil,Nat.reduceAdd,Nat.reduceSub,Array.replicate_succ,Array.replicate_zero,List.push_toArray,List.append_toArray,List.nil_append,List.cons_append]
 gi_wp2
 go_ret
 exact ⟨rfl,rfl⟩
theorem jL5 (n : Nat) (hn : 1 ≤ n) (Bm Bd Bs : Nat) (seed : Nat) (s : ByteArray) (hs : s.size ≤ 140737488351232) (many : Int) (hm : many < 9223372036854775808) (U : Nat → Array Value) (hU : ∀ k,k < many.toNat → U k = jO2 seed s.data.toList k) (w : World)
  (lm : Bm < w.heap.size) (ld : Bd < w.heap.size) (ls : Bs < w.heap.size) (cm : w.cell? ⟨Bm,0,none⟩ = some (.int .i64 many)) (cd : w.cell? ⟨Bd,0,none⟩ = some (.int .u64 seed)) (cs : w.cell? ⟨Bs,0,none⟩ = some (.string s)) :
  SeqStopsK Fence.wide n Tryz.prog 190 #[.pointer (some ⟨Bm,0,none⟩),.pointer (some ⟨Bd,0,none⟩),.pointer (some ⟨Bs,0,none⟩)] U (jGh Bd Bs) (fun ys => ys = List.range many.toNat) (fun pre => pre <+: List.range many.toNat) many.toNat w:=fun l J Jx W hW _ _ hY h0 =>
 kAk n hn l Bm Bd Bs seed s hs many hm U hU J Jx hY W ((hW.cell (p:=⟨Bm,0,none⟩) lm).trans cm) ((hW.cell (p:=⟨Bd,0,none⟩) ld).trans cd) ((hW.cell (p:=⟨Bs,0,none⟩) ls).trans cs) h0
theorem jV2 (n : Nat) (hn : 1 ≤ n) (Bm Bd Bs : Nat) (seed : Nat) (s : ByteArray) (hs : s.size ≤ 140737488351232) (many : Int) (hm : many < 9223372036854775808) (w : World)
  (lm : Bm < w.heap.size) (ld : Bd < w.heap.size) (ls : Bs < w.heap.size) (cm : w.cell? ⟨Bm,0,none⟩ = some (.int .i64 many)) (cd : w.cell? ⟨Bd,0,none⟩ = some (.int .u64 seed)) (cs : w.cell? ⟨Bs,0,none⟩ = some (.string s)) :
  SeqStopsK Fence.wide n Tryz.prog 190 #[.pointer (some ⟨Bm,0,none⟩),.pointer (some ⟨Bd,0,none⟩),.pointer (some ⟨Bs,0,none⟩)] (jO2 seed s.data.toList) (jGh Bd Bs) (fun ys => ys = List.range many.toNat) (fun pre => pre <+: List.range many.toNat) many.toNat w :=
 jL5 n hn Bm Bd Bs seed s hs many hm _ (fun _ _ => rfl) w lm ld ls cm cd cs
theorem jQl {Bd Bs : Nat} {w : World} (h : Bd < w.heap.size) (h' : Bs < w.heap.size) : ∀ (W : World) (l : Nat) (o o' : Obj),w.heap.size ≤ l → W.heap[l]? = some o → o.isCells = false → o.isWalk = false → jGh Bd Bs W (W.putObj l o'):=fun W l o o' hl _ _ _ =>
 ⟨World.cell?_of_block (w:=W) (World.putObj_heap_other (show Bd ≠ l by omega)),World.cell?_of_block (w:=W) (World.putObj_heap_other (show Bs ≠ l by omega))⟩
theorem jQs {Bd Bs : Nat} {A B C : World} (h : jGh Bd Bs A B) (k : jGh Bd Bs B C) : jGh Bd Bs A C:=⟨k.1.trans h.1,k.2.trans h.2⟩
theorem jPp {Bd Bs : Nat} {t u : TypeId} {v x : Value} {A B : World} (a1 : Boxed A Bd t v) (a2 : Boxed A Bs u x) (b1 : Boxed B Bd t v) (b2 : Boxed B Bs u x) : jGh Bd Bs A B:=⟨b1.cell.trans a1.cell.symm,b2.cell.trans a2.cell.symm⟩
theorem jPm {fn : Func} {p : Tmp} {ty : TypeId} (h : fn.results = #[.cell p ty]) (tmps : Array Value) (P : Program) (w : World) :
  (results fn tmps).run P w = ((asAddr (tmps.getD p undef)).run P w).andThen fun a w₁ => (loadVar ty a).run P w₁:=by
 simp only [results,h]
 simp [Sem.run_bind,Result.andThen]
end
end Go.Proofs.YtkfeafmpaodagaaGreatDoor
