/- Small functions of package exec: only, newCAS, end, view. Conditions: none. The closures of package exec, and change, which calls them. Conditions: the contracts of package shard. change of package exec, at each of its closures. Conditions: the contracts of package shard. store of package exec, and what is told of it. Conditions: the contracts of package shard. storeTold, storeNumber, makeWon, see and makeStale of package exec. Conditions: the contracts of package shard; the variables of package num. storeNumber, makeWon, see and makeStale of package exec. Conditions: the contracts of package shard; the variables of package num. see and makeStale of package exec. Conditions: the contracts of package shard. storeBoth and count of package exec. Conditions: the contracts of package shard; the variables of package num. storeBoth of package exec. Conditions: the contracts of package shard. -/
import Derived.Test.YtkfeafmpaodagaaGreatDoorG35Joined
import Derived.Test.YtkfeafmpaodagaaGreatDoorItemLibF
import Derived.Test.YtkfeafmpaodagaaGreatDoorG06Joined
import Derived.Test.YtkfeafmpaodagaaGreatDoorG36Joined
import Derived.Test.YtkfeafmpaodagaaGreatDoorG02Joined
namespace Go.Proofs.YtkfeafmpaodagaaGreatDoor
set_option maxHeartbeats 16000000
set_option maxRecDepth 100000
section
set_option linter.unusedVariables false
open Go.RowKit Go.Shelf Go.Sort
theorem jAj {fn : Func} {W : World} {r : Nat} {x : Rv} {a : Option Addr} {k : Nat} {tmps : Array Value} {p : Tmp} {Post : Ending → World → Prop} (hf : fn.results = #[.cell p 40]) (hb : W.heap[r]? = some (.cells (rsC x a k) 40 (0,0))) (h4 : tmps.getD p undef = .pointer (some ⟨r,0,none⟩))
  (h : Post (.returned (.agg (rsC x a k))) W) : bodyPost Tryz.prog fn Post .ret { tmps:=tmps,defers:=[] } W :=
 bodyPost_ret (results_cell_row hf tmps W r 40 (rsC x a k) (0,0) _ h4 hb Tryz.underlying40 rfl (jNo x a k)) rfl h
theorem jBz (s : Int) (w : World) : Calls Tryz.prog 52 #[.int .i64 s] w fun e w' => e = .returned (.agg (rsC (jAh s) none 0)) ∧ w.grownBy w' none:=by
 have hg:=World.grownBy_alloc w (.cells (rsC (jAh s) none 0) 40) none
 go_enter Tryz.func52,Tryz.ntmps52
 go_wp2_with (refine stR_ w.heap.size (jAh s) none 0 rfl _ _ rfl rfl rfl (World.alloc_heap_new w _) ?_;rw [jAq])
 exact jAj rfl (World.alloc_heap_new w _) rfl ⟨rfl,hg⟩
section
variable {w : World} {k b : Nat} {c : Cv} {va : Option Addr} {vc : Nat} {en : En} {i : It} {t : TypeId}
theorem jLn (h : w.heap[k]? = some (.cells (tuC b c va vc en i) t (0,0))) (hen : en.ok) : Calls Tryz.prog 134 #[.pointer (some ⟨k,0,none⟩)] w fun e w' => e = .returned (.int .u64 (jCx en.seq)) ∧ w' = w:=by
 have c1:=jS2 h
 have h1:=hen.seq
 unfold U64 at h1
 have HN : Hid ((en.seq + 1) % 18446744073709551616 = jCx en.seq):=rfl
 go_enter Tryz.func134,Tryz.ntmps134
 go_wp2
 go_ret
 exact ⟨by rw [← HN.out];rfl,rfl⟩
theorem jIc (h : w.heap[k]? = some (.cells (tuC b c va vc en i) t (0,0))) : Calls Tryz.prog 59 #[.pointer (some ⟨k,0,none⟩)] w fun e w' => e = .returned (.int .i64 (atW c.exp en.now)) ∧ ∃ m,w' = w.drewN m:=by
 have c1:=tu_exp h
 have c2:=jPw h
 have HA:=jAa (fun W => jM2 c.exp en.now W)
 go_enter Tryz.func59,Tryz.ntmps59
 go_upto_region 1 with fail
 go_quiet (exact Calls.quiet_of_same (HA.out _))
 go_wp2
 go_ret
 exact ⟨rfl,nq,rfl⟩
theorem jB4 {r : Nat} {tt : TypeId} {x : Rv} {a : Option Addr} {kk : Nat} (h : w.heap[r]? = some (.cells (rsC x a kk) tt (0,0))) : w.cell? ⟨r,0,none⟩ = some (.int .i64 x.s) ∧ w.cell? ⟨r,1,none⟩ = some (.slice a x.val.length kk) ∧ w.cell? ⟨r,2,none⟩ = some (.int .u32 x.fl) ∧ w.cell? ⟨r,3,none⟩ = some (.int .u64 x.cas) ∧ w.cell? ⟨r,4,none⟩ = some (.int .i64 x.ttl) ∧ w.cell? ⟨r,5,none⟩ = some (.int .u64 x.num) ∧ w.cell? ⟨r,6,none⟩ = some (.bool x.st) ∧ w.cell? ⟨r,7,none⟩ = some (.bool x.won) ∧ w.cell? ⟨r,8,none⟩ = some (.bool x.lost):=by
 simp [World.cell?,h,rsC]
theorem jNq {v : Iv} {a : Option Addr} {cc : Nat} (h : w.heap[k]? = some (.cells (tuC b c va vc en (jAe v a cc)) t (0,0))) : Calls Tryz.prog 64 #[.pointer (some ⟨k,0,none⟩)] w fun e w' => e = .returned (.agg (rsC (jA8 v en) a cc)) ∧ w.grownBy w' none:=by
 have hr:=kA0 h
 have H0:=((Law.start w).box (.cells (rsC jAg none 0) 40)).box (.cells (itC (jAe v a cc)) 75)
 rw [World.size_alloc] at H0
 have hk : k < w.heap.size:=(Array.getElem?_eq_some_iff.1 h).1
 have hK:=jAa h
 have hr1 : (w.alloc (.cells (rsC jAg none 0) 40)).rangeAt k 15 (itC (jAe v a cc)).toList:=kA0 (jFu (World.grownBy_alloc w _ none) h)
 have HT:=jAa (fun W => jQq (jAe v a cc) en.now W)
 have hz : (w.alloc (.cells (rsC jAg none 0) 40)).heap.size = w.heap.size + 1:=World.size_alloc _ _
 have hn : ((w.alloc (.cells (rsC jAg none 0) 40)).alloc (.cells (itC jBw) 75)).heap[w.heap.size + 1]? = some (.cells (itC jBw) 75 (0,0)):=by rw [← hz];exact World.alloc_heap_new _ _
 have hzr : w.alloc (.cells (rsC jAg none 0) 40) = w.alloc (.cells #[.int .i64 0,.slice none 0 0,.int .u32 0,.int .u64 0,.int .i64 0,.int .u64 0,.bool false,.bool false,.bool false] 40):=rfl
 have hg0:=jAt (World.grownBy_alloc w (.cells (rsC jAg none 0) 40) none) (World.grownBy_alloc (w.alloc (.cells (rsC jAg none 0) 40)) (.cells (itC (jAe v a cc)) 75) none)
 clear h hr hz
 go_enter Tryz.func64,Tryz.ntmps64
 go_upto_region 2 with (first
  | (refine wpList_load_mid rfl 75 _ rfl k 15 rfl (itC (jAe v a cc)).toList _ hr1 Tryz.underlying75 rfl (by rw [jCd (jAe v a cc),Array.length_toList]) ?_)
  | (refine stI (w.heap.size + 1) (jAe v a cc) rfl _ _ rfl rfl rfl hn ?_;rw [jV7,← hzr]))
 clear hzr
 generalize (w.alloc (.cells (rsC jAg none 0) 40)).alloc (.cells (itC (jAe v a cc)) 75) = W at *
 have hKW:=jAa (jFu hg0 hK.out)
 have HR:=jAa H0.rot
 obtain ⟨g0,g1,g2,g3,g4,g5,g6,g7,g8,g9⟩:=kF1 (i:=jAe v a cc) H0.q.1
 have gn : ∀ n os,(grow (W.drewN n) os).cell? ⟨k,11,none⟩ = some (.int .i64 en.now):=fun n os => jPw (jMn hKW.out n os)
 clear H0 hg0 hn hr1 hK
 unfold jAe at g0 g1 g2 g3 g4 g5 g6 g7 g8 g9
 dsimp only at g0 g1 g2 g3 g4 g5 g6 g7 g8 g9
 refine jY9 16 (by kernel_rfl) (by simp) (by kernel_rfl) ?_
 simp only [List.take_succ_cons,List.take_zero,List.drop_succ_cons,List.drop_zero]
 repeat (quiet_step (exact Calls.grown_of (HT.out _)))
 refine wpQuiet_nil ?_
 intro _ hw'
 obtain ⟨⟨nq,osq⟩,rfl⟩:=hw'
 have H2:=HR.out.step (Gd.grown ⟨nq,osq,rfl⟩)
 clear g0 g1 g2 g3 g4 g5 g6 g7 g8 g9 gn
 generalize grow (W.drewN nq) osq = W2 at *
 go_wp2_with (refine stR_ w.heap.size (jA8 v en) a cc rfl _ _ rfl rfl rfl H2.q.1 ?_;have H3:=jG1 ((jGp H2).setRow (rsC (jA8 v en) a cc)))
 exact jAj rfl H3.q.1 rfl ⟨rfl,jB9 H3.below⟩
end
end
section
set_option linter.unusedVariables false
open Go.RowKit Go.Shelf Go.Sort
variable {Sh : World → Nat → (Nat → Prop) → Nat → Nat → Hs → Prop}
section
variable {w0 w : World} {k b : Nat} {c : Cv} {va : Option Addr} {vc : Nat} {en : En} {i : Iv} {ia : Option Addr} {ic : Nat} {R : jAd}
theorem kFs (x : Int) : (tuC b c va vc en (jAe i ia ic)).setIfInBounds 18 (.int .i64 x) = tuC b c va vc en (jAe { i with exp:=x } ia ic):=by simp [tuC,jAe]
theorem kHp (x : Int) : (tuC b c va vc en (jAe i ia ic)).setIfInBounds 19 (.int .u64 x) = tuC b c va vc en (jAe { i with cas:=x } ia ic):=by simp [tuC,jAe]
theorem kL4 (x : Bool) : (tuC b c va vc en (jAe i ia ic)).setIfInBounds 22 (.bool x) = tuC b c va vc en (jAe { i with st:=x } ia ic):=by simp [tuC,jAe]
theorem kIa (x : Bool) : (tuC b c va vc en (jAe i ia ic)).setIfInBounds 23 (.bool x) = tuC b c va vc en (jAe { i with won:=x } ia ic):=by simp [tuC,jAe]
theorem kDx (x : Bool) : (tuC b c va vc en (jAe i ia ic)).setIfInBounds 24 (.bool x) = tuC b c va vc en (jAe { i with seen:=x } ia ic):=by simp [tuC,jAe]
abbrev TnP (k b : Nat) (c : Cv) (va : Option Addr) (vc : Nat) (en : En) (i : Iv) (ia : Option Addr) (ic : Nat) : jAd:=tnP k b c va vc en (jAe i ia ic)
theorem Law.tuExp (H : Law w0 w ((TnP k b c va vc en i ia ic).and R)) (x : Int) : Law w0 (w.setCell ⟨k,18,none⟩ (.int .i64 x)) ((TnP k b c va vc en { i with exp:=x } ia ic).and R):=by
 have h:=H.setAt 18 (.int .i64 x)
 rwa [kFs] at h
theorem Law.tuCas (H : Law w0 w ((TnP k b c va vc en i ia ic).and R)) (x : Int) : Law w0 (w.setCell ⟨k,19,none⟩ (.int .u64 x)) ((TnP k b c va vc en { i with cas:=x } ia ic).and R):=by
 have h:=H.setAt 19 (.int .u64 x)
 rwa [kHp] at h
theorem Law.tuSt (H : Law w0 w ((TnP k b c va vc en i ia ic).and R)) (x : Bool) : Law w0 (w.setCell ⟨k,22,none⟩ (.bool x)) ((TnP k b c va vc en { i with st:=x } ia ic).and R):=by
 have h:=H.setAt 22 (.bool x)
 rwa [kL4] at h
theorem Law.tuWon (H : Law w0 w ((TnP k b c va vc en i ia ic).and R)) (x : Bool) : Law w0 (w.setCell ⟨k,23,none⟩ (.bool x)) ((TnP k b c va vc en { i with won:=x } ia ic).and R):=by
 have h:=H.setAt 23 (.bool x)
 rwa [kIa] at h
theorem Law.tuSeen (H : Law w0 w ((TnP k b c va vc en i ia ic).and R)) (x : Bool) : Law w0 (w.setCell ⟨k,24,none⟩ (.bool x)) ((TnP k b c va vc en { i with seen:=x } ia ic).and R):=by
 have h:=H.setAt 24 (.bool x)
 rwa [kDx] at h
theorem Law.tuFree (H : Law w0 w ((TnP k b c va vc en i ia ic).and R)) (j : Nat) : w.frozen? ⟨k,j,none⟩ = false:=frozen_of_row _ _ _ _ _ H.q.1
def jF4 (w0 : World) (R : jAd) (kt : Nat) (v : Value) : Prop:=∀ W,Law w0 W R → W.cell? ⟨kt,0,none⟩ = some v
theorem kHz (H : Law w0 w ((TnP k b c va vc en i ia ic).and R)) : Calls Tryz.prog 63 #[.pointer (some ⟨k,15,none⟩)] w fun e w' => (∃ v,e = .returned v) ∧ Law w0 w' ((TnP k b c va vc en { i with seen:=true } ia ic).and R):=by
 have c1:=jOj H.q.1
 have f1:=H.tuFree 24
 have H1:=H.tuSeen true
 go_enter Tryz.func63,Tryz.ntmps63
 go_wp2
 go_end0
 exact ⟨⟨_,rfl⟩,H1⟩
theorem kKt (H : Law w0 w ((TnP k b c va vc en i ia ic).and R)) : Calls Tryz.prog 97 #[.pointer (some ⟨k,15,none⟩)] w fun e w' => (∃ v,e = .returned v) ∧ Law w0 w' ((TnP k b c va vc en { i with won:=true } ia ic).and R):=by
 have c1:=jJz H.q.1
 have f1:=H.tuFree 23
 have H1:=H.tuWon true
 go_enter Tryz.func97,Tryz.ntmps97
 go_wp2
 go_end0
 exact ⟨⟨_,rfl⟩,H1⟩
theorem kIz (H : Law w0 w ((TnP k b c va vc en i ia ic).and R)) {kt : Nat} (hkt : jF4 w0 R kt (.pointer (some ⟨k,0,none⟩))) : Calls Tryz.prog 61 #[.pointer (some ⟨k,15,none⟩),.pointer (some ⟨kt,0,none⟩)] w fun e w' => (∃ v,e = .returned v) ∧ Law w0 w' ((TnP k b c va vc en { i with exp:=atW c.exp en.now } ia ic).and R):=by
 have k1:=hkt w H.right
 go_enter Tryz.func61,Tryz.ntmps61
 go_wp2_with (go_at_call 59;refine (jIc H.q.1).mono ?_;rintro e w1 ⟨rfl,m,rfl⟩;have H1:=H.drewN m;have c1:=jLz H1.q.1;have f1:=H1.tuFree 18;have H2:=H1.tuExp (atW c.exp en.now))
 go_end0
 exact ⟨⟨_,rfl⟩,H2⟩
def jHo (c : Cv) (en : En) (i : Iv) (won lost : Bool) : Iv:={ i with exp:=if c.sets then atW c.exp en.now else i.exp,seen:=true,won:=won || lost }
theorem kMi (H : Law w0 w ((TnP k b c va vc en i ia ic).and R)) {kt kw kl : Nat} {won lost : Bool} (hkt : jF4 w0 R kt (.pointer (some ⟨k,0,none⟩))) (hkw : jF4 w0 R kw (.bool won)) (hkl : jF4 w0 R kl (.bool lost)) :
  Calls Tryz.prog 100 #[.pointer (some ⟨k,15,none⟩),.pointer (some ⟨kt,0,none⟩),.pointer (some ⟨kw,0,none⟩),.pointer (some ⟨kl,0,none⟩)] w fun e w' => (∃ v,e = .returned v) ∧ Law w0 w' ((TnP k b c va vc en (jHo c en i won lost) ia ic).and R):=by
 have k1:=hkt w H.right
 have c0:=jTq H.q.1
 cases hs : c.sets with
 | true =>
  rw [hs] at c0
  have HS : Hid (jHo c en i won lost = { i with exp:=atW c.exp en.now,seen:=true,won:=won || lost }):=by show _ = _;unfold jHo;rw [hs];rfl
  clear hs
  cases won with
  | true =>
   go_enter Tryz.func100,Tryz.ntmps100
   go_wp2_with (go_at_call 59;refine (jIc H.q.1).mono ?_;rintro e w1 ⟨rfl,m,rfl⟩;have H1:=H.drewN m;have c1:=jLz H1.q.1;have f1:=H1.tuFree 18;have H2:=H1.tuExp (atW c.exp en.now);clear k1 c0;have c2:=jOj H2.q.1;have f2:=H2.tuFree 24;have H3:=H2.tuSeen true;have c3:=jJz H3.q.1;have f3:=H3.tuFree 23;have k3:=hkw _ H3.right;have k4:=hkl _ H3.right;have H4:=H3.tuWon true)
   go_end0
   exact ⟨⟨_,rfl⟩,by rw [HS.out];exact H4⟩
  | false =>
   go_enter Tryz.func100,Tryz.ntmps100
   go_wp2_with (go_at_call 59;refine (jIc H.q.1).mono ?_;rintro e w1 ⟨rfl,m,rfl⟩;have H1:=H.drewN m;have c1:=jLz H1.q.1;have f1:=H1.tuFree 18;have H2:=H1.tuExp (atW c.exp en.now);clear k1 c0;have c2:=jOj H2.q.1;have f2:=H2.tuFree 24;have H3:=H2.tuSeen true;have c3:=jJz H3.q.1;have f3:=H3.tuFree 23;have k3:=hkw _ H3.right;have k4:=hkl _ H3.right;have H4:=H3.tuWon lost)
   go_end0
   exact ⟨⟨_,rfl⟩,by rw [HS.out];exact H4⟩
 | false =>
  rw [hs] at c0
  have HS : Hid (jHo c en i won lost = { i with seen:=true,won:=won || lost }):=by show _ = _;unfold jHo;rw [hs];rfl
  clear hs
  have c2:=jOj H.q.1
  have f2:=H.tuFree 24
  have H3:=H.tuSeen true
  have c3:=jJz H3.q.1
  have f3:=H3.tuFree 23
  have k3:=hkw _ H3.right
  have k4:=hkl _ H3.right
  have H4:=H3.tuWon (won || lost)
  cases won with
  | true =>
   go_enter Tryz.func100,Tryz.ntmps100
   go_wp2
   go_end0
   exact ⟨⟨_,rfl⟩,by rw [HS.out];exact H4⟩
  | false =>
   go_enter Tryz.func100,Tryz.ntmps100
   go_wp2
   go_end0
   exact ⟨⟨_,rfl⟩,by rw [HS.out];exact H4⟩
theorem kDw (H : Law w0 w ((TnP k b c va vc en i ia ic).and R)) (hen : en.ok) {kt : Nat} (hkt : jF4 w0 R kt (.pointer (some ⟨k,0,none⟩))) : Calls Tryz.prog 139 #[.pointer (some ⟨k,15,none⟩),.pointer (some ⟨kt,0,none⟩)] w fun e w' => (∃ v,e = .returned v) ∧ Law w0 w' ((TnP k b c va vc en { i with st:=true,won:=false,cas:=jCx en.seq,exp:=if c.sets then atW c.exp en.now else i.exp } ia ic).and R):=by
 have k1:=hkt w H.right
 cases hs : c.sets with
 | true =>
  go_enter Tryz.func139,Tryz.ntmps139
  go_wp2_with (first
   | (go_at_call 134;refine (jLn H.q.1 hen).mono ?_;rintro e w1 ⟨rfl,rfl⟩;have c1:=jXu H.q.1;have f1:=H.tuFree 22;have H1:=H.tuSt true;have c2:=jJz H1.q.1;have f2:=H1.tuFree 23;have H2:=H1.tuWon false;have c3:=jT2 H2.q.1;have f3:=H2.tuFree 19;have H3:=H2.tuCas (jCx en.seq);have k2:=hkt _ H3.right;have c4:=jTq H3.q.1;rw [hs] at c4;clear hs)
   | (go_at_call 59;refine (jIc H3.q.1).mono ?_;rintro e w2 ⟨rfl,m,rfl⟩;have H4:=H3.drewN m;have c5:=jLz H4.q.1;have f5:=H4.tuFree 18;have H5:=H4.tuExp (atW c.exp en.now)))
  go_end0
  exact ⟨⟨_,rfl⟩,H5⟩
 | false =>
  go_enter Tryz.func139,Tryz.ntmps139
  go_wp2_with (go_at_call 134;refine (jLn H.q.1 hen).mono ?_;rintro e w1 ⟨rfl,rfl⟩;have c1:=jXu H.q.1;have f1:=H.tuFree 22;have H1:=H.tuSt true;have c2:=jJz H1.q.1;have f2:=H1.tuFree 23;have H2:=H1.tuWon false;have c3:=jT2 H2.q.1;have f3:=H2.tuFree 19;have H3:=H2.tuCas (jCx en.seq);have k2:=hkt _ H3.right;have c4:=jTq H3.q.1;rw [hs] at c4;clear hs)
  go_end0
  exact ⟨⟨_,rfl⟩,H3⟩
end
end
section
set_option linter.unusedVariables false
open Go.RowKit Go.Shelf Go.Sort
variable {Sh : World → Nat → (Nat → Prop) → Nat → Nat → Hs → Prop}
section
variable {L : jA7 Sh} {w0 w : World} {k b sd n : Nat} {own : Nat → Prop} {st : Hs} {c : Cv} {va : Option Addr} {vc : Nat} {en : En} {i : Iv} {ia : Option Addr} {ic : Nat} {R : jAd}
structure TuIt (k b : Nat) (j : Iv) (ia : Option Addr) (ic : Nat) (w : World) : Prop where
 s : w.cell? ⟨k,0,none⟩ = some (.pointer (some ⟨b,0,none⟩))
 c0 : w.cell? ⟨k,15,none⟩ = some (.string j.key)
 c1 : w.cell? ⟨k,16,none⟩ = some (.slice ia j.val.length ic)
 c2 : w.cell? ⟨k,17,none⟩ = some (.int .u32 j.fl)
 c3 : w.cell? ⟨k,18,none⟩ = some (.int .i64 j.exp)
 c4 : w.cell? ⟨k,19,none⟩ = some (.int .u64 j.cas)
 c5 : w.cell? ⟨k,20,none⟩ = some (.int .i64 j.sec)
 c6 : w.cell? ⟨k,21,none⟩ = some (.int .u64 j.seq)
 c7 : w.cell? ⟨k,22,none⟩ = some (.bool j.st)
 c8 : w.cell? ⟨k,23,none⟩ = some (.bool j.won)
 c9 : w.cell? ⟨k,24,none⟩ = some (.bool j.seen)
theorem jNe {j : Iv} {t : TypeId} (h : w.heap[k]? = some (.cells (tuC b c va vc en (jAe j ia ic)) t (0,0))) : TuIt k b j ia ic w :=
 ⟨jB5 h 0 _ rfl,jB5 h 15 _ rfl,jB5 h 16 _ rfl,jB5 h 17 _ rfl,jB5 h 18 _ rfl,jB5 h 19 _ rfl,jB5 h 20 _ rfl,jB5 h 21 _ rfl,jB5 h 22 _ rfl,jB5 h 23 _ rfl,jB5 h 24 _ rfl⟩
theorem jS1 (H : Law w0 w ((TnP k b c va vc en i ia ic).and ((shQ L b own sd n st).and R))) (hn : n ≤ 4398046511104)  {j : Iv} (hj : { i with seen:=true } = j) (hok : j.ok) (hrd : Rd w0 R ia ic j.val) :
  Calls Tryz.prog 62 #[.pointer (some ⟨k,0,none⟩),.func (.func 63) #[] #[]] w fun e w' => (∃ v,e = .returned v) ∧ ∃ own',Law w0 w' ((TnP k b c va vc en j ia ic).and ((shQ L b own' sd n (jBa st j)).and R)):=by
 have HF:=jAa (kHz H)
 rw [hj] at HF
 clear hj
 go_enter Tryz.func62,Tryz.ntmps62
 go_upto_region 1 with (go_at_call 63;refine HF.out.mono ?_;rintro e w1 ⟨⟨v1,rfl⟩,H1⟩;clear H)
 obtain ⟨q0,q1,q2,q3,q4,q5,q6,q7,q8,q9,q10⟩:=jNe H1.q.1
 have HH:=jAa H1.rot
 clear H1
 refine jB7 8 (by kernel_rfl) (by simp) (by kernel_rfl) ?_
 simp only [List.take_succ_cons,List.take_zero,List.drop_succ_cons,List.drop_zero]
 repeat (quiet_step (fail))
 refine wpQuiet_nil ?_
 intro _ hw'
 obtain ⟨nq,rfl⟩:=hw'
 clear q0 q1 q2 q3 q4 q5 q6 q7 q8 q9 q10
 have H2:=HH.out.drewN nq
 generalize w1.drewN nq = w2 at *
 go_wp2_with (go_at_call 98;refine (jIh L H2 hn j ia ic hok (H2.readR hrd.right)).mono ?_;rintro e w3 ⟨rfl,own3,H3⟩)
 go_end0
 exact ⟨⟨_,rfl⟩,own3,H3.rot⟩
theorem kHc (H : Law w0 w ((TnP k b c va vc en i ia ic).and ((shQ L b own sd n st).and R))) (hn : n ≤ 4398046511104)  {j : Iv} (hj : { i with won:=true } = j) (hok : j.ok) (hrd : Rd w0 R ia ic j.val) :
  Calls Tryz.prog 62 #[.pointer (some ⟨k,0,none⟩),.func (.func 97) #[] #[]] w fun e w' => (∃ v,e = .returned v) ∧ ∃ own',Law w0 w' ((TnP k b c va vc en j ia ic).and ((shQ L b own' sd n (jBa st j)).and R)):=by
 have HF:=jAa (kKt H)
 rw [hj] at HF
 clear hj
 go_enter Tryz.func62,Tryz.ntmps62
 go_upto_region 1 with (go_at_call 97;refine HF.out.mono ?_;rintro e w1 ⟨⟨v1,rfl⟩,H1⟩;clear H)
 obtain ⟨q0,q1,q2,q3,q4,q5,q6,q7,q8,q9,q10⟩:=jNe H1.q.1
 have HH:=jAa H1.rot
 clear H1
 refine jB7 8 (by kernel_rfl) (by simp) (by kernel_rfl) ?_
 simp only [List.take_succ_cons,List.take_zero,List.drop_succ_cons,List.drop_zero]
 repeat (quiet_step (fail))
 refine wpQuiet_nil ?_
 intro _ hw'
 obtain ⟨nq,rfl⟩:=hw'
 clear q0 q1 q2 q3 q4 q5 q6 q7 q8 q9 q10
 have H2:=HH.out.drewN nq
 generalize w1.drewN nq = w2 at *
 go_wp2_with (go_at_call 98;refine (jIh L H2 hn j ia ic hok (H2.readR hrd.right)).mono ?_;rintro e w3 ⟨rfl,own3,H3⟩)
 go_end0
 exact ⟨⟨_,rfl⟩,own3,H3.rot⟩
theorem jVf (H : Law w0 w ((TnP k b c va vc en i ia ic).and ((shQ L b own sd n st).and R))) (hn : n ≤ 4398046511104) {kt : Nat} (hkt : jF4 w0 ((shQ L b own sd n st).and R) kt (.pointer (some ⟨k,0,none⟩))) {j : Iv} (hj : { i with exp:=atW c.exp en.now } = j) (hok : j.ok) (hrd : Rd w0 R ia ic j.val) :
  Calls Tryz.prog 62 #[.pointer (some ⟨k,0,none⟩),.func (.func 61) #[] #[.pointer (some ⟨kt,0,none⟩)]] w fun e w' => (∃ v,e = .returned v) ∧ ∃ own',Law w0 w' ((TnP k b c va vc en j ia ic).and ((shQ L b own' sd n (jBa st j)).and R)):=by
 have HF:=jAa (kIz H hkt)
 rw [hj] at HF
 clear hj
 go_enter Tryz.func62,Tryz.ntmps62
 go_upto_region 1 with (go_at_call 61;refine HF.out.mono ?_;rintro e w1 ⟨⟨v1,rfl⟩,H1⟩;clear H)
 obtain ⟨q0,q1,q2,q3,q4,q5,q6,q7,q8,q9,q10⟩:=jNe H1.q.1
 have HH:=jAa H1.rot
 clear H1
 refine jB7 8 (by kernel_rfl) (by simp) (by kernel_rfl) ?_
 simp only [List.take_succ_cons,List.take_zero,List.drop_succ_cons,List.drop_zero]
 repeat (quiet_step (fail))
 refine wpQuiet_nil ?_
 intro _ hw'
 obtain ⟨nq,rfl⟩:=hw'
 clear q0 q1 q2 q3 q4 q5 q6 q7 q8 q9 q10
 have H2:=HH.out.drewN nq
 generalize w1.drewN nq = w2 at *
 go_wp2_with (go_at_call 98;refine (jIh L H2 hn j ia ic hok (H2.readR hrd.right)).mono ?_;rintro e w3 ⟨rfl,own3,H3⟩)
 go_end0
 exact ⟨⟨_,rfl⟩,own3,H3.rot⟩
theorem kFv (H : Law w0 w ((TnP k b c va vc en i ia ic).and ((shQ L b own sd n st).and R))) (hn : n ≤ 4398046511104) {kt kw kl : Nat} {won lost : Bool} (hkt : jF4 w0 ((shQ L b own sd n st).and R) kt (.pointer (some ⟨k,0,none⟩))) (hkw : jF4 w0 ((shQ L b own sd n st).and R) kw (.bool won)) (hkl : jF4 w0 ((shQ L b own sd n st).and R) kl (.bool lost)) {j : Iv} (hj : jHo c en i won lost = j) (hok : j.ok) (hrd : Rd w0 R ia ic j.val) :
  Calls Tryz.prog 62 #[.pointer (some ⟨k,0,none⟩),.func (.func 100) #[] #[.pointer (some ⟨kt,0,none⟩),.pointer (some ⟨kw,0,none⟩),.pointer (some ⟨kl,0,none⟩)]] w fun e w' => (∃ v,e = .returned v) ∧ ∃ own',Law w0 w' ((TnP k b c va vc en j ia ic).and ((shQ L b own' sd n (jBa st j)).and R)):=by
 have HF:=jAa (kMi H hkt hkw hkl)
 rw [hj] at HF
 clear hj
 go_enter Tryz.func62,Tryz.ntmps62
 go_upto_region 1 with (go_at_call 100;refine HF.out.mono ?_;rintro e w1 ⟨⟨v1,rfl⟩,H1⟩;clear H)
 obtain ⟨q0,q1,q2,q3,q4,q5,q6,q7,q8,q9,q10⟩:=jNe H1.q.1
 have HH:=jAa H1.rot
 clear H1
 refine jB7 8 (by kernel_rfl) (by simp) (by kernel_rfl) ?_
 simp only [List.take_succ_cons,List.take_zero,List.drop_succ_cons,List.drop_zero]
 repeat (quiet_step (fail))
 refine wpQuiet_nil ?_
 intro _ hw'
 obtain ⟨nq,rfl⟩:=hw'
 clear q0 q1 q2 q3 q4 q5 q6 q7 q8 q9 q10
 have H2:=HH.out.drewN nq
 generalize w1.drewN nq = w2 at *
 go_wp2_with (go_at_call 98;refine (jIh L H2 hn j ia ic hok (H2.readR hrd.right)).mono ?_;rintro e w3 ⟨rfl,own3,H3⟩)
 go_end0
 exact ⟨⟨_,rfl⟩,own3,H3.rot⟩
theorem kAs (H : Law w0 w ((TnP k b c va vc en i ia ic).and ((shQ L b own sd n st).and R))) (hn : n ≤ 4398046511104) (hen : en.ok) {kt : Nat} (hkt : jF4 w0 ((shQ L b own sd n st).and R) kt (.pointer (some ⟨k,0,none⟩))) {j : Iv} (hj : { i with st:=true,won:=false,cas:=jCx en.seq,exp:=if c.sets then atW c.exp en.now else i.exp } = j) (hok : j.ok) (hrd : Rd w0 R ia ic j.val) :
  Calls Tryz.prog 62 #[.pointer (some ⟨k,0,none⟩),.func (.func 139) #[] #[.pointer (some ⟨kt,0,none⟩)]] w fun e w' => (∃ v,e = .returned v) ∧ ∃ own',Law w0 w' ((TnP k b c va vc en j ia ic).and ((shQ L b own' sd n (jBa st j)).and R)):=by
 have HF:=jAa (kDw H hen hkt)
 rw [hj] at HF
 clear hj
 go_enter Tryz.func62,Tryz.ntmps62
 go_upto_region 1 with (go_at_call 139;refine HF.out.mono ?_;rintro e w1 ⟨⟨v1,rfl⟩,H1⟩;clear H)
 obtain ⟨q0,q1,q2,q3,q4,q5,q6,q7,q8,q9,q10⟩:=jNe H1.q.1
 have HH:=jAa H1.rot
 clear H1
 refine jB7 8 (by kernel_rfl) (by simp) (by kernel_rfl) ?_
 simp only [List.take_succ_cons,List.take_zero,List.drop_succ_cons,List.drop_zero]
 repeat (quiet_step (fail))
 refine wpQuiet_nil ?_
 intro _ hw'
 obtain ⟨nq,rfl⟩:=hw'
 clear q0 q1 q2 q3 q4 q5 q6 q7 q8 q9 q10
 have H2:=HH.out.drewN nq
 generalize w1.drewN nq = w2 at *
 go_wp2_with (go_at_call 98;refine (jIh L H2 hn j ia ic hok (H2.readR hrd.right)).mono ?_;rintro e w3 ⟨rfl,own3,H3⟩)
 go_end0
 exact ⟨⟨_,rfl⟩,own3,H3.rot⟩
end
end
section
set_option linter.unusedVariables false
open Go.RowKit Go.Shelf Go.Sort
variable {Sh : World → Nat → (Nat → Prop) → Nat → Nat → Hs → Prop}
section
variable {L : jA7 Sh} {w0 w : World} {k b sd n : Nat} {own : Nat → Prop} {st : Hs} {c : Cv} {va : Option Addr} {vc : Nat} {en : En} {i : Iv} {ia : Option Addr} {ic : Nat} {R : jAd}
def StEnd (L : jA7 Sh) (w0 : World) (k b : Nat) (c : Cv) (va : Option Addr) (vc : Nat) (en : En) (sd n : Nat) (R : jAd) (a' : Option Addr) (c' : Nat) (nw : Iv) (i : Iv) (ia : Option Addr) (ic : Nat) (r : Rv × Hs) (e : Ending) (w' : World) : Prop :=
 e = .returned (.agg (rsC r.1 none 0)) ∧ ∃ own' j ja jc,Law w0 w' ((TnP k b c va vc en j ja jc).and ((shQ L b own' sd (n + 1) r.2).and R)) ∧ (r.1.s = 2 → j = nw ∧ ja = a' ∧ jc = c') ∧ (r.1.s ≠ 2 → j = i ∧ ja = ia ∧ jc = ic)
abbrev SK (k : Nat) (c : Cv) (en : En) (w : World) : Prop:=w.cell? ⟨k,2,none⟩ = some (.string c.key) ∧ w.cell? ⟨k,11,none⟩ = some (.int .i64 en.now) ∧ w.cell? ⟨k,12,none⟩ = some (.int .u64 en.seq)
theorem sk_of {x : It} {t : TypeId} (h : w.heap[k]? = some (.cells (tuC b c va vc en x) t (0,0))) : SK k c en w:=⟨jXs h,jPw h,jS2 h⟩
theorem Law.tuItem (H : Law w0 w ((TnP k b c va vc en i ia ic).and R)) (j : Iv) (ja : Option Addr) (jc : Nat) : Law w0 (w.setCells k 15 (itC (jAe j ja jc)).toList) ((TnP k b c va vc en j ja jc).and R):=by
 have h:=Law.setL H 15 (itC (jAe j ja jc)).toList
 rwa [tu_set] at h
theorem jI7 (H : Law w0 w ((TnP k b c va vc en i ia ic).and ((shQ L b own sd n st).and R))) (hn : n ≤ 4398046511104) (hl : n ≤ 900 ∨ st.slab.bud ≤ 57600) (hen : en.ok) (v : List UInt8) (a' : Option Addr) (c' : Nat) (fl exp : Int) (hk : c.key.size ≤ 140737488351232) (hv : v.length ≤ 140737488351232) (he : I64 exp) (hrd : Rd w0 R a' c' v) :
  Calls Tryz.prog 94 #[.pointer (some ⟨k,0,none⟩),.slice a' v.length c',.int .u32 fl,.int .i64 exp] w (StEnd L w0 k b c va vc en sd n R a' c' (jBf c.key v fl exp en) i ia ic (jBb sd st c.key v fl exp en)):=by
 obtain ⟨x,hx⟩ : ∃ x,(jBk sd st (jBf c.key v fl exp en) en).1 = x:=⟨_,rfl⟩
 obtain ⟨T,hT⟩ : ∃ T,(jBk sd st (jBf c.key v fl exp en) en).2 = T:=⟨_,rfl⟩
 have hr : jBb sd st c.key v fl exp en = (stR x (jCx en.seq),T):=by unfold jBb;rw [hx,hT]
 rw [hr]
 have HX:=jAa hx
 have HT:=jAa hT
 have hi : (jBf c.key v fl exp en).ok:=⟨hk,hv,he,hen.now,hen.seq⟩
 clear hr hx hT
 have H0:=(H.box (.cells (rsC jAg none 0) 40)).rot
 have q2:=jXs H0.q.1
 have q11:=jPw H0.q.1
 have q12:=jS2 H0.q.1
 clear H
 go_enter Tryz.func94,Tryz.ntmps94
 go_upto_region 1 with fail
 generalize hW : w.alloc (.cells (rsC jAg none 0) 40) = W at *
 have hzr : w.alloc (.cells #[.int .i64 0,.slice none 0 0,.int .u32 0,.int .u64 0,.int .i64 0,.int .u64 0,.bool false,.bool false,.bool false] 40) = W:=hW
 rw [hzr]
 clear hzr
 have HW:=jAa H0
 have HN:=jAa (jLn (w:=W.drew) H0.drew.q.1 hen)
 have HN2:=jAa (fun o => jLn (w:=(W.alloc o).drew) (H0.alloc o).drew.q.1 hen)
 have q1:=jAa (sk_of H0.drew.q.1)
 clear H0 q2 q11 q12
 go_region_held (SK k c en) (first | exact q1.out | exact sk_of (HW.out.alloc _).drew.q.1) ((go_at_call 134;(first | (refine HN.out.mono ?_) | (refine (HN2.out _).mono ?_));rintro e w1 ⟨rfl,rfl⟩))
 all_goals
  have H2:=(HW.out.box (.cells (itC (jAe (jBf c.key v fl exp en) a' c')) 75)).drew
  have hX : (W.alloc (.cells (itC (jAe (jBf c.key v fl exp en) a' c')) 75)).drew = (W.alloc (.cells #[.string c.key,.slice a' v.length c',.int .u32 fl,.int .i64 exp,.int .u64 (jCx en.seq),.int .i64 en.now,.int .u64 en.seq,.bool false,.bool false,.bool false] 75)).drew:=rfl
  rw [← hX]
  clear hX HN HN2 q1 HW
  obtain ⟨G,hG⟩ : ∃ G,W.heap.size = G:=⟨_,rfl⟩
  generalize (W.alloc (.cells (itC (jAe (jBf c.key v fl exp en) a' c')) 75)).drew = X at *
  rw [hG] at H2 ⊢
  clear hG
  have p0:=tu_s H2.rot.q.1
  have p11:=jPw H2.rot.q.1
  have p12:=jS2 H2.rot.q.1
  have p13 : X.cell? ⟨k,13,none⟩ = some (.int .i64 en.flush):=jB5 H2.rot.q.1 13 _ rfl
  have p14 : X.cell? ⟨k,14,none⟩ = some (.int .u64 en.fseq):=jB5 H2.rot.q.1 14 _ rfl
  obtain ⟨g0,g1,g2,g3,g4,g5,g6,g7,g8,g9⟩:=jAk H2.q.1
  unfold jAe jBf at g0 g1 g2 g3 g4 g5 g6 g7 g8 g9
  dsimp only at g0 g1 g2 g3 g4 g5 g6 g7 g8 g9
  have HH:=jAa H2
  clear H2
  go_upto_region 2 with fail
  refine jB7 9 (by kernel_rfl) (by simp) (by kernel_rfl) ?_
  simp only [List.take_succ_cons,List.take_zero,List.drop_succ_cons,List.drop_zero]
  repeat (quiet_step (fail))
  refine wpQuiet_nil ?_
  intro _ hw'
  obtain ⟨nq,rfl⟩:=hw'
  clear p0 p11 p12 p13 p14 g0 g1 g2 g3 g4 g5 g6 g7 g8 g9
  have N:=jG1 (jGp (HH.out.drewN nq)).rot4
  clear HH
  generalize X.drewN nq = X2 at *
  by_cases hx0 : x = 0
  ·subst hx0
   go_wp2_with (first
    | (go_at_call 135;refine (jM9 L N hn hl (jBf c.key v fl exp en) a' c' en hi (N.readR hrd.right.right.right) hen _ _ HX.out HT.out).mono ?_;rintro e w3 ⟨rfl,own3,H3⟩;have H4:=jG1 (jGp H3).unrot4;clear N H3;have H5:=H4.rot;have ht:=kMd H5.q.1;have H6:=H5.tuItem (jBf c.key v fl exp en) a' c')
    | (refine ldI G (jAe (jBf c.key v fl exp en) a' c') rfl _ rfl rfl H4.q.1 ?_)
    | (refine wpList_store_mid rfl 75 _ _ rfl k 15 (itC (jAe (jBf c.key v fl exp en) a' c')) rfl rfl ht (jCd _) (jHu _) ?_;clear ht H5 H4;generalize w3.setCells k 15 (itC (jAe (jBf c.key v fl exp en) a' c')).toList = w4 at *;have c4 : w4.cell? ⟨G,4,none⟩ = some (.int .u64 (jCx en.seq)):=(jAk H6.rot.q.1).2.2.2.2.1;have H7:=H6.rin.rot)
    | (refine stR_ w.heap.size (stR 0 (jCx en.seq)) none 0 rfl _ _ rfl rfl rfl H7.q.1 ?_;have H8:=jG1 ((jGp H7).setRow (rsC (stR 0 (jCx en.seq)) none 0))))
   exact jAj rfl H8.q.1 rfl ⟨rfl,own3,jBf c.key v fl exp en,a',c',H8.right.drop2,fun _ => ⟨rfl,rfl,rfl⟩,fun h => absurd rfl h⟩
  ·have b0:=beq_eq_false_iff_ne.2 hx0
   by_cases hx8 : x = 8
   ·subst hx8
    clear b0
    go_wp2_with (first
     | (go_at_call 135;refine (jM9 L N hn hl (jBf c.key v fl exp en) a' c' en hi (N.readR hrd.right.right.right) hen _ _ HX.out HT.out).mono ?_;rintro e w3 ⟨rfl,own3,H3⟩;have H4:=jG1 (jGp H3).unrot4;clear N H3)
     | (go_at_call 52;refine (jBz 3 _).mono ?_;rintro e w4 ⟨rfl,hg⟩;have H7:=(H4.step hg).rot.rin.rot;clear hg)
     | (refine stR_ w.heap.size (jAh 3) none 0 rfl _ _ rfl rfl rfl H7.q.1 ?_;have H8:=jG1 ((jGp H7).setRow (rsC (jAh 3) none 0))))
    exact jAj rfl H8.q.1 rfl ⟨rfl,own3,i,ia,ic,H8.right.drop2,fun h => absurd (show (3 : Int) = 2 from h) (by decide),fun _ => ⟨rfl,rfl,rfl⟩⟩
   ·have b8:=beq_eq_false_iff_ne.2 hx8
    have hst : stR x (jCx en.seq) = jAh 9:=by unfold stR;rw [if_neg hx0,if_neg hx8]
    have HS:=jAa hst
    clear hx0 hx8 hst
    go_wp2_with (first
     | (go_at_call 135;refine (jM9 L N hn hl (jBf c.key v fl exp en) a' c' en hi (N.readR hrd.right.right.right) hen _ _ HX.out HT.out).mono ?_;rintro e w3 ⟨rfl,own3,H3⟩;have H4:=jG1 (jGp H3).unrot4;clear N H3)
     | (go_at_call 52;refine (jBz 9 _).mono ?_;rintro e w4 ⟨rfl,hg⟩;have H7:=(H4.step hg).rot.rin.rot;clear hg)
     | (refine stR_ w.heap.size (jAh 9) none 0 rfl _ _ rfl rfl rfl H7.q.1 ?_;have H8:=jG1 ((jGp H7).setRow (rsC (jAh 9) none 0))))
    refine jAj rfl H8.q.1 rfl ⟨?_,own3,i,ia,ic,H8.right.drop2,fun h => ?_,fun _ => ⟨rfl,rfl,rfl⟩⟩
    ·show Ending.returned (.agg (rsC (jAh 9) none 0)) = .returned (.agg (rsC (stR x (jCx en.seq)) none 0))
     rw [HS.out]
    ·have h' : (stR x (jCx en.seq)).s = 2:=h
     rw [HS.out] at h'
     exact absurd (show (9 : Int) = 2 from h') (by decide)
end
end
section
set_option linter.unusedVariables false
open Go.RowKit Go.Shelf Go.Sort
variable {Sh : World → Nat → (Nat → Prop) → Nat → Nat → Hs → Prop}
section
variable {L : jA7 Sh} {w0 w : World} {k b sd n : Nat} {own : Nat → Prop} {st : Hs} {c : Cv} {va : Option Addr} {vc : Nat} {en : En} {i : Iv} {ia : Option Addr} {ic : Nat} {R : jAd}
theorem jAi (w : World) : w.alloc (.cells #[.int .i64 0,.slice none 0 0,.int .u32 0,.int .u64 0,.int .i64 0,.int .u64 0,.bool false,.bool false,.bool false] 40) = w.alloc (.cells (rsC jAg none 0) 40):=rfl
theorem jIq (H : Law w0 w ((TnP k b c va vc en i ia ic).and ((shQ L b own sd n st).and R))) (hn : n ≤ 4398046511104) (hl : n ≤ 900 ∨ st.slab.bud ≤ 57600) (hen : en.ok) (hc : c.ok) (hrd : Rd w0 R va vc c.val) :
  Calls Tryz.prog 57 #[.pointer (some ⟨k,0,none⟩)] w (StEnd L w0 k b c va vc en sd n R va vc (jBf c.key c.val c.fl (atW c.exp en.now) en) i ia ic (jBb sd st c.key c.val c.fl (atW c.exp en.now) en)):=by
 have hx:=jCm hc.exp hen.now
 have H0:=(H.box (.cells (rsC jAg none 0) 40)).rot.rin
 have p3:=jXr H0.q.1
 have p4:=tu_fl H0.q.1
 clear H
 go_enter Tryz.func57,Tryz.ntmps57
 go_upto_region 1 with fail
 rw [jAi]
 generalize w.alloc (.cells (rsC jAg none 0) 40) = W at *
 have HN:=jAa (fun m => jIc (w:=W.drewN m) (H0.drewN m).q.1)
 have HH:=jAa H0
 clear H0
 refine jB7 13 (by kernel_rfl) (by simp) (by kernel_rfl) ?_
 simp only [List.take_succ_cons,List.take_zero,List.drop_succ_cons,List.drop_zero]
 repeat (quiet_step (exact Calls.quiet_of (HN.out _)))
 refine wpQuiet_nil ?_
 intro _ hw'
 obtain ⟨nq,rfl⟩:=hw'
 have H1:=HH.out.drewN nq
 clear p3 p4 HN HH
 generalize W.drewN nq = X at *
 go_wp2_with (first
  | (go_at_call 94;refine (jI7 H1 hn hl hen c.val va vc c.fl (atW c.exp en.now) hc.key hc.val hx hrd.right).mono ?_;rintro e w3 ⟨rfl,own3,j,ja,jc,H3,h3⟩;have H4:=H3.rin.rot;have HE:=jAa h3;clear h3 H3 H1)
  | (refine stR_ w.heap.size (jBb sd st c.key c.val c.fl (atW c.exp en.now) en).1 none 0 rfl _ _ rfl rfl rfl H4.q.1 ?_;have H8:=jG1 ((jGp H4).setRow (rsC (jBb sd st c.key c.val c.fl (atW c.exp en.now) en).1 none 0))))
 exact jAj rfl H8.q.1 rfl ⟨rfl,own3,j,ja,jc,H8.right,HE.out⟩
end
end
section
set_option linter.unusedVariables false
open Go.RowKit Go.Shelf Go.Sort
variable {Sh : World → Nat → (Nat → Prop) → Nat → Nat → Hs → Prop}
section
variable {L : jA7 Sh} {w0 w : World} {k b sd n : Nat} {own : Nat → Prop} {st : Hs} {c : Cv} {va : Option Addr} {vc : Nat} {en : En} {i : Iv} {ia : Option Addr} {ic : Nat} {R : jAd}
def jJ1 (L : jA7 Sh) (w0 : World) (b sd n : Nat) (R : jAd) (r : Rv × Hs) (e : Ending) (w' : World) : Prop :=
 ∃ own',e = .returned (.agg (rsC r.1 none 0)) ∧ Law w0 w' ((shQ L b own' sd n r.2).and R)
theorem kNy (r : Rv) (a : Option Addr) (kk : Nat) (x : Int) : (rsC r a kk).setIfInBounds 0 (.int .i64 x) = rsC { r with s:=x } a kk:=by simp [rsC]
theorem kG8 (r : Rv) (a : Option Addr) (kk : Nat) (x : Int) : (rsC r a kk).setIfInBounds 5 (.int .u64 x) = rsC { r with num:=x } a kk:=by simp [rsC]
theorem jVj (r : Rv) (a : Option Addr) (kk : Nat) (x : Bool) : (rsC r a kk).setIfInBounds 7 (.bool x) = rsC { r with won:=x } a kk:=by simp [rsC]
theorem jTd (r : Rv) (a : Option Addr) (kk : Nat) (x : Bool) : (rsC r a kk).setIfInBounds 8 (.bool x) = rsC { r with lost:=x } a kk:=by simp [rsC]
abbrev jEo (g : Nat) (r : Rv) (a : Option Addr) (kk : Nat) : jAd:=jAn g (.cells (rsC r a kk) 40)
theorem Law.rsS {g : Nat} {r : Rv} {a : Option Addr} {kk : Nat} (H : Law w0 w ((jEo g r a kk).and R)) (x : Int) : Law w0 (w.setCell ⟨g,0,none⟩ (.int .i64 x)) ((jEo g { r with s:=x } a kk).and R):=by
 have h:=H.setAt 0 (.int .i64 x)
 rwa [kNy] at h
theorem Law.rsNum {g : Nat} {r : Rv} {a : Option Addr} {kk : Nat} (H : Law w0 w ((jEo g r a kk).and R)) (x : Int) : Law w0 (w.setCell ⟨g,5,none⟩ (.int .u64 x)) ((jEo g { r with num:=x } a kk).and R):=by
 have h:=H.setAt 5 (.int .u64 x)
 rwa [kG8] at h
theorem Law.rsWon {g : Nat} {r : Rv} {a : Option Addr} {kk : Nat} (H : Law w0 w ((jEo g r a kk).and R)) (x : Bool) : Law w0 (w.setCell ⟨g,7,none⟩ (.bool x)) ((jEo g { r with won:=x } a kk).and R):=by
 have h:=H.setAt 7 (.bool x)
 rwa [jVj] at h
theorem Law.rsLost {g : Nat} {r : Rv} {a : Option Addr} {kk : Nat} (H : Law w0 w ((jEo g r a kk).and R)) (x : Bool) : Law w0 (w.setCell ⟨g,8,none⟩ (.bool x)) ((jEo g { r with lost:=x } a kk).and R):=by
 have h:=H.setAt 8 (.bool x)
 rwa [jTd] at h
theorem Law.rsRow {g : Nat} {r : Rv} {a : Option Addr} {kk : Nat} (H : Law w0 w ((jEo g r a kk).and R)) (r' : Rv) (a' : Option Addr) (kk' : Nat) : Law w0 (w.setRow g (rsC r' a' kk')) ((jEo g r' a' kk').and R):=jG1 ((jGp H).setRow (rsC r' a' kk'))
theorem Law.rsFree {g : Nat} {r : Rv} {a : Option Addr} {kk : Nat} (H : Law w0 w ((jEo g r a kk).and R)) (j : Nat) : w.frozen? ⟨g,j,none⟩ = false:=frozen_of_row _ _ _ _ _ H.q.1
theorem jVd (r : Rv × Hs) (x : Int) (h : r.1.s = 2) : jBc r x = ({ r.1 with s:=7,num:=x },r.2):=if_pos h
theorem jSb (r : Rv × Hs) (x : Int) (h : r.1.s ≠ 2) : jBc r x = r:=if_neg h
theorem jHh (H : Law w0 w ((TnP k b c va vc en i ia ic).and ((shQ L b own sd n st).and R))) (hLd : jBr w0) (hn : n ≤ 4398046511104) (hl : n ≤ 900 ∨ st.slab.bud ≤ 57600) (hen : en.ok) (x : Nat) (hx : x < 18446744073709551616) (fl exp : Int) (hk : c.key.size ≤ 140737488351232) (he : I64 exp) :
  Calls Tryz.prog 58 #[.pointer (some ⟨k,0,none⟩),.int .u64 (x : Int),.int .u32 fl,.int .i64 exp] w (jJ1 L w0 b sd (n + 1) R (jBc (jBb sd st c.key (jCz (x : Int)) fl exp en) x)):=by
 have H0:=(H.box (.cells (rsC jAg none 0) 40)).rot.rin
 have hsl : (jCz (x : Int)).length ≤ 140737488351232:=Nat.le_trans (jJf x hx) (by decide)
 have hsb : jCz (x : Int) = Lib.decDigits x:=rfl
 obtain ⟨p,hp⟩ : ∃ p,jBb sd st c.key (jCz (x : Int)) fl exp en = p:=⟨_,rfl⟩
 rw [hp]
 have HP:=jAa hp
 have HSB:=jAa hsb
 clear H hp hsb
 by_cases hs : p.1.s = 2
 ·rw [jVd p x hs]
  have hsb2 : (p.1.s == 2) = true:=by rw [hs];rfl
  clear hs
  go_enter Tryz.func58,Tryz.ntmps58
  go_wp2_with (first
   | (go_at_call 95;refine (jYn x hx _ (hLd.on H0.below)).mono ?_;rintro e w1 ⟨rfl,hb⟩;have H1:=H0.step (jB9 hb);obtain ⟨C,o,hcv,hB⟩:=jJa (Lib.decDigits x) w1;have H2:=(H1.drew.box o).rot.rin;have hrd:=Rd.box (w0:=w0) rfl hB;clear hb H0 H1)
   | (go_at_call 94;refine (jI7 H2 hn hl hen (jCz (x : Int)) _ _ fl exp hk hsl he hrd.left).mono ?_;rw [HP.out];rintro e w3 ⟨rfl,own3,j,ja,jc,H3,h3⟩;have H4:=(H3.box (.cells (rsC p.1 none 0) 40));clear h3 H3 H2 hcv)
   | (refine stR_ w3.heap.size p.1 none 0 rfl _ _ rfl rfl rfl (World.alloc_heap_new w3 _) ?_;rw [jAq];generalize w3.alloc (.cells (rsC p.1 none 0) 40) = w4 at *;have c0:=(jB4 H4.q.1).1;have c5:=(jB4 H4.q.1).2.2.2.2.2.1;have f0:=H4.rsFree 0;have f5:=H4.rsFree 5;have H5:=(H4.rsS 7).rsNum x)
   | (refine ldR w3.heap.size _ _ _ rfl _ rfl rfl H5.q.1 ?_;have H6:=H5.right.right.drop2.rot)
   | (refine stR_ w.heap.size { p.1 with s:=7,num:=(x : Int) } none 0 rfl _ _ rfl rfl rfl H6.q.1 ?_;have H7:=H6.rsRow { p.1 with s:=7,num:=(x : Int) } none 0))
  exact jAj rfl H7.q.1 rfl ⟨own3,rfl,H7.right⟩
 ·rw [jSb p x hs]
  have hsb2 : (p.1.s == 2) = false:=beq_eq_false_iff_ne.2 hs
  clear hs
  go_enter Tryz.func58,Tryz.ntmps58
  go_wp2_with (first
   | (go_at_call 95;refine (jYn x hx _ (hLd.on H0.below)).mono ?_;rintro e w1 ⟨rfl,hb⟩;have H1:=H0.step (jB9 hb);obtain ⟨C,o,hcv,hB⟩:=jJa (Lib.decDigits x) w1;have H2:=(H1.drew.box o).rot.rin;have hrd:=Rd.box (w0:=w0) rfl hB;clear hb H0 H1)
   | (go_at_call 94;refine (jI7 H2 hn hl hen (jCz (x : Int)) _ _ fl exp hk hsl he hrd.left).mono ?_;rw [HP.out];rintro e w3 ⟨rfl,own3,j,ja,jc,H3,h3⟩;have H4:=(H3.box (.cells (rsC p.1 none 0) 40));clear h3 H3 H2 hcv)
   | (refine stR_ w3.heap.size p.1 none 0 rfl _ _ rfl rfl rfl (World.alloc_heap_new w3 _) ?_;rw [jAq];generalize w3.alloc (.cells (rsC p.1 none 0) 40) = w4 at *;have c0:=(jB4 H4.q.1).1)
   | (refine ldR w3.heap.size _ _ _ rfl _ rfl rfl H4.q.1 ?_;have H6:=H4.right.right.drop2.rot)
   | (refine stR_ w.heap.size p.1 none 0 rfl _ _ rfl rfl rfl H6.q.1 ?_;have H7:=H6.rsRow p.1 none 0))
  exact jAj rfl H7.q.1 rfl ⟨own3,rfl,H7.right⟩
def jHr (sd : Nat) (h : Hs) (c : Cv) (en : En) : Rv × Hs :=
 if (jBk sd h (jBf c.key [] 0 (atW c.exp en.now) en) en).1 = 0 then
  ({ jA8 (jBf c.key [] 0 (atW c.exp en.now) en) en with won:=true },jBa (jBk sd h (jBf c.key [] 0 (atW c.exp en.now) en) en).2 { jBf c.key [] 0 (atW c.exp en.now) en with won:=true })
 else (jAh 1,(jBk sd h (jBf c.key [] 0 (atW c.exp en.now) en) en).2)
theorem jP3 {h : Hs} {key : ByteArray} {v : List UInt8} {fl exp : Int} : (jBb sd h key v fl exp en).1.s = 2 ↔ (jBk sd h (jBf key v fl exp en) en).1 = 0:=by
 unfold jBb stR
 dsimp only
 split
 ·rename_i e
  exact ⟨fun _ => e,fun _ => rfl⟩
 ·rename_i e
  refine ⟨fun h2 => ?_,fun h2 => absurd h2 e⟩
  split at h2
  ·exact absurd (show (3 : Int) = 2 from h2) (by decide)
  ·exact absurd (show (9 : Int) = 2 from h2) (by decide)
theorem kAt (H : Law w0 w ((TnP k b c va vc en i ia ic).and ((shQ L b own sd n st).and R))) (hn : n < 4398046511104) (hl : n ≤ 900 ∨ st.slab.bud ≤ 57600) (hen : en.ok) (hc : c.ok) :
  Calls Tryz.prog 60 #[.pointer (some ⟨k,0,none⟩)] w (jJ1 L w0 b sd (n + 1) R (jHr sd st c en)):=by
 have hx:=jCm hc.exp hen.now
 have H0:=(H.box (.cells (rsC jAg none 0) 40)).rot.rin
 obtain ⟨p,hp⟩ : ∃ p,jBb sd st c.key [] 0 (atW c.exp en.now) en = p:=⟨_,rfl⟩
 have HP:=jAa hp
 have hp2 : (jBk sd st (jBf c.key [] 0 (atW c.exp en.now) en) en).2 = p.2:=by rw [← hp];rfl
 have hv0 : ([] : List UInt8).length ≤ 140737488351232:=Nat.zero_le _
 clear H
 by_cases hs : p.1.s = 2
 ·have hw : jHr sd st c en = ({ jA8 { jBf c.key [] 0 (atW c.exp en.now) en with won:=true } en with won:=true },jBa p.2 { jBf c.key [] 0 (atW c.exp en.now) en with won:=true }):=by
   unfold jHr
   rw [if_pos (jP3.1 (by rw [hp];exact hs)),hp2]
   rfl
  rw [hw]
  have hsb2 : (p.1.s != 2) = false:=by rw [hs];rfl
  have HS:=jAa hs
  have hok : ({ jBf c.key [] 0 (atW c.exp en.now) en with won:=true } : Iv).ok:=⟨hc.key,Nat.zero_le _,hx,hen.now,hen.seq⟩
  clear hs hw hp hp2
  go_enter Tryz.func60,Tryz.ntmps60
  go_wp2_with (first
   | (go_at_call 59;refine (jIc H0.q.1).mono ?_;rintro e w1 ⟨rfl,m,rfl⟩;have H2:=H0.drewN m;clear H0)
   | (go_at_call 94;refine (jI7 H2 (Nat.le_of_lt hn) hl hen [] none 0 0 (atW c.exp en.now) hc.key hv0 hx Rd.nil).mono ?_;rw [HP.out];rintro e w3 ⟨rfl,own3,j,ja,jc,H3,h3⟩;obtain ⟨rfl,rfl,rfl⟩:=h3.1 HS.out;have H4:=(H3.box (.cells (rsC p.1 none 0) 40));clear h3 H3 H2)
   | (refine stR_ w3.heap.size p.1 none 0 rfl _ _ rfl rfl rfl (World.alloc_heap_new w3 _) ?_;rw [jAq];generalize w3.alloc (.cells (rsC p.1 none 0) 40) = w4 at *;have c0:=(jB4 H4.q.1).1;have H5:=H4.right;clear H4)
   | (go_at_call 62;refine (kHc H5 hn rfl hok Rd.nil).mono ?_;rintro e w5 ⟨⟨v5,rfl⟩,own5,H6⟩;clear H5 c0)
   | (go_at_call 64;refine (jNq H6.q.1).mono ?_;rintro e w6 ⟨rfl,hg⟩;have H7:=(H6.step hg).box (.cells (rsC (jA8 { jBf c.key [] 0 (atW c.exp en.now) en with won:=true } en) none 0) 40);clear hg H6)
   | (refine stR_ w6.heap.size (jA8 { jBf c.key [] 0 (atW c.exp en.now) en with won:=true } en) none 0 rfl _ _ rfl rfl rfl (World.alloc_heap_new w6 _) ?_;rw [jAq];generalize w6.alloc (.cells (rsC (jA8 { jBf c.key [] 0 (atW c.exp en.now) en with won:=true } en) none 0) 40) = w7 at *;have c7:=(jB4 H7.q.1).2.2.2.2.2.2.2.1;have f7:=H7.rsFree 7;have H8:=H7.rsWon true)
   | (refine ldR w6.heap.size _ _ _ rfl _ rfl rfl H8.q.1 ?_;have H9:=H8.right.right.rot)
   | (refine stR_ w.heap.size { jA8 { jBf c.key [] 0 (atW c.exp en.now) en with won:=true } en with won:=true } none 0 rfl _ _ rfl rfl rfl H9.q.1 ?_;have H10:=H9.rsRow { jA8 { jBf c.key [] 0 (atW c.exp en.now) en with won:=true } en with won:=true } none 0))
  exact jAj rfl H10.q.1 rfl ⟨own5,rfl,H10.right⟩
 ·have hw : jHr sd st c en = (jAh 1,p.2):=by
   unfold jHr
   rw [if_neg (fun h => hs (by rw [← hp];exact jP3.2 h)),hp2]
  rw [hw]
  have hsb2 : (p.1.s != 2) = true:=by simpa using hs
  clear hs hw hp hp2
  go_enter Tryz.func60,Tryz.ntmps60
  go_wp2_with (first
   | (go_at_call 59;refine (jIc H0.q.1).mono ?_;rintro e w1 ⟨rfl,m,rfl⟩;have H2:=H0.drewN m;clear H0)
   | (go_at_call 94;refine (jI7 H2 (Nat.le_of_lt hn) hl hen [] none 0 0 (atW c.exp en.now) hc.key hv0 hx Rd.nil).mono ?_;rw [HP.out];rintro e w3 ⟨rfl,own3,j,ja,jc,H3,h3⟩;have H4:=(H3.box (.cells (rsC p.1 none 0) 40));clear h3 H3 H2)
   | (refine stR_ w3.heap.size p.1 none 0 rfl _ _ rfl rfl rfl (World.alloc_heap_new w3 _) ?_;rw [jAq];generalize w3.alloc (.cells (rsC p.1 none 0) 40) = w4 at *;have c0:=(jB4 H4.q.1).1)
   | (go_at_call 52;refine (jBz 1 _).mono ?_;rintro e w5 ⟨rfl,hg⟩;have H6:=(H4.step hg).right.right.rot;clear hg)
   | (refine stR_ w.heap.size (jAh 1) none 0 rfl _ _ rfl rfl rfl H6.q.1 ?_;have H7:=H6.rsRow (jAh 1) none 0))
  exact jAj rfl H7.q.1 rfl ⟨own3,rfl,H7.right⟩
end
end
section
set_option linter.unusedVariables false
open Go.RowKit Go.Shelf Go.Sort
variable {Sh : World → Nat → (Nat → Prop) → Nat → Nat → Hs → Prop}
section
variable {L : jA7 Sh} {w0 w : World} {k b sd n : Nat} {own : Nat → Prop} {st : Hs} {c : Cv} {va : Option Addr} {vc : Nat} {en : En} {i : Iv} {ia : Option Addr} {ic : Nat} {R : jAd}
theorem jDj {g : Nat} {v : Value} {t : TypeId} (h : w.heap[g]? = some (.cells #[v] t (0,0))) : w.cell? ⟨g,0,none⟩ = some v:=by simp [World.cell?,h]
theorem Law.boxT (H : Law w0 w ((TnP k b c va vc en i ia ic).and ((shQ L b own sd n st).and R))) (o : Obj) : Law w0 (w.alloc o) ((TnP k b c va vc en i ia ic).and ((shQ L b own sd n st).and ((jAn w.heap.size o).and R))):=(H.box o).rot.rin
theorem jWc (H : Law w0 w ((TnP k b c va vc en i ia ic).and ((shQ L b own sd n st).and R))) (hn : n ≤ 4398046511104) (hen : en.ok) {j : Iv} (hj : { i with st:=true,won:=false,cas:=jCx en.seq,exp:=if c.sets then atW c.exp en.now else i.exp } = j) (hok : j.ok) (hrd : Rd w0 R ia ic j.val) :
  Calls Tryz.prog 103 #[.pointer (some ⟨k,0,none⟩)] w fun e w' => (∃ v,e = .returned v) ∧ ∃ own',Law w0 w' ((shQ L b own' sd n (jBa st j)).and R):=by
 have H0:=H.boxT (.cells #[.pointer (some ⟨k,0,none⟩)] 79)
 have hkt : jF4 w0 ((shQ L b own sd n st).and ((jAn w.heap.size (.cells #[.pointer (some ⟨k,0,none⟩)] 79)).and R)) w.heap.size (.pointer (some ⟨k,0,none⟩)):=fun W HW => jDj HW.right.left.q
 have k1:=hkt _ H0.right
 clear H
 go_enter Tryz.func103,Tryz.ntmps103
 go_wp2_with (go_at_call 62;refine (kAs H0 hn hen hkt hj hok hrd.right).mono ?_;rintro e w5 ⟨⟨v5,rfl⟩,own5,H6⟩)
 go_end0
 exact ⟨⟨_,rfl⟩,own5,H6.right.drop2⟩
theorem kJl (x y : Bool) : jA8 (jHo c en i x y) en = jA8 (jC2 c en i) en:=rfl
theorem kNx (H : Law w0 w ((TnP k b c va vc en i ia ic).and ((shQ L b own sd n st).and ((jA5 0 ia ic i.val).and R)))) (hn : n ≤ 4398046511104) (hen : en.ok) (hc : c.ok) (hi : i.ok) :
  Calls Tryz.prog 65 #[.pointer (some ⟨k,0,none⟩)] w (jDl L w0 b sd n R ({ jA8 (jC2 c en i) en with lost:=i.won,won:=!i.won && i.st },jBa st { jC2 c en i with won:=i.won || i.st })):=by
 have hx:=jCm hc.exp hen.now
 obtain ⟨lost,hlost⟩ : ∃ q,i.won = q:=⟨_,rfl⟩
 obtain ⟨won,hwon⟩ : ∃ q,(i.st && !i.won) = q:=⟨_,rfl⟩
 have hj : jHo c en i won lost = { jC2 c en i with won:=i.won || i.st }:=by
  rw [← hwon,← hlost]
  unfold jHo jC2
  cases i.won <;> cases i.st <;> rfl
 have hr : ({ jA8 (jC2 c en i) en with lost:=i.won,won:=!i.won && i.st } : Rv) = { jA8 (jHo c en i won lost) en with lost:=lost,won:=won }:=by
  rw [kJl,← hwon,← hlost]
  cases i.won <;> cases i.st <;> rfl
 rw [hr,← hj]
 have hok : (jHo c en i won lost).ok:=⟨hi.key,hi.val,by unfold jHo;dsimp only;split;exact hx;exact hi.exp,hi.sec,hi.seq⟩
 have H1:=(H.boxT (.cells #[.pointer (some ⟨k,0,none⟩)] 79)).boxT (.cells (rsC jAg none 0) 40)
 rw [World.size_alloc] at H1
 have c23:=jJz H1.q.1
 have k1 : ((w.alloc (.cells #[.pointer (some ⟨k,0,none⟩)] 79)).alloc (.cells (rsC jAg none 0) 40)).cell? ⟨w.heap.size,0,none⟩ = some (.pointer (some ⟨k,0,none⟩)):=jDj H1.q.2.1.2.1.2.1.1
 change ((w.alloc (.cells #[.pointer (some ⟨k,0,none⟩)] 79)).alloc (.cells (rsC jAg none 0) 40)).cell? ⟨k,23,none⟩ = some (.bool i.won) at c23
 rw [hlost] at c23
 clear H hr hj
 go_enter Tryz.func65,Tryz.ntmps65
 go_upto_region 1 with fail
 rw [jAi]
 generalize (w.alloc (.cells #[.pointer (some ⟨k,0,none⟩)] 79)).alloc (.cells (rsC jAg none 0) 40) = W at *
 have H2:=H1.boxT (.cells #[.bool lost] 4)
 have c22:=jXu H2.q.1
 change (W.alloc (.cells #[.bool lost] 4)).cell? ⟨k,22,none⟩ = some (.bool i.st) at c22
 have k2 : (W.alloc (.cells #[.bool lost] 4)).cell? ⟨w.heap.size,0,none⟩ = some (.pointer (some ⟨k,0,none⟩)):=jDj H2.q.2.1.2.1.2.1.2.1.1
 have k3 : (W.alloc (.cells #[.bool lost] 4)).cell? ⟨W.heap.size,0,none⟩ = some (.bool lost):=jDj H2.q.2.1.2.1.1
 go_upto_region 2 with fail
 generalize W.alloc (.cells #[.bool lost] 4) = W2 at *
 have H3:=H2.boxT (.cells #[.bool won] 4)
 have k4 : (W2.alloc (.cells #[.bool won] 4)).cell? ⟨w.heap.size,0,none⟩ = some (.pointer (some ⟨k,0,none⟩)):=jDj H3.q.2.1.2.1.2.1.2.1.2.1.1
 have HH:=jAa H3
 have hw2 : (i.st = true ∧ won = !lost) ∨ (i.st = false ∧ won = false):=by
  rw [← hwon,← hlost]
  cases i.st <;> simp
 clear H1 H2 H3 k1 c23 hwon hlost
 have goal : ∀ (P : Prop),(won = !lost → i.st = true → P) → (won = false → i.st = false → P) → P:=fun P h1 h2 => hw2.elim (fun h => h1 h.2 h.1) fun h => h2 h.2 h.1
 refine goal _ (fun e1 e2 => ?_) (fun e1 e2 => ?_)
 all_goals
  rw [e2] at c22
  clear e2 goal hw2
  have hW3:=congrArg (fun q => W2.alloc (.cells #[.bool q] 4)) e1
  clear e1
  go_upto_region 3 with fail
  rw [← hW3]
  clear hW3
  generalize W2.alloc (.cells #[.bool won] 4) = W3 at *
  clear c22 k2 k3
  have H4:=HH.out
  clear HH
  have hkt : jF4 w0 ((shQ L b own sd n st).and ((jAn W2.heap.size (.cells #[.bool won] 4)).and ((jAn W.heap.size (.cells #[.bool lost] 4)).and ((jAn (w.heap.size + 1) (.cells (rsC jAg none 0) 40)).and ((jAn w.heap.size (.cells #[.pointer (some ⟨k,0,none⟩)] 79)).and ((jA5 0 ia ic i.val).and R)))))) w.heap.size (.pointer (some ⟨k,0,none⟩)):=fun W HW => jDj HW.right.right.right.right.left.q
  have hkw : jF4 w0 ((shQ L b own sd n st).and ((jAn W2.heap.size (.cells #[.bool won] 4)).and ((jAn W.heap.size (.cells #[.bool lost] 4)).and ((jAn (w.heap.size + 1) (.cells (rsC jAg none 0) 40)).and ((jAn w.heap.size (.cells #[.pointer (some ⟨k,0,none⟩)] 79)).and ((jA5 0 ia ic i.val).and R)))))) W2.heap.size (.bool won):=fun W HW => jDj HW.right.left.q
  have hkl : jF4 w0 ((shQ L b own sd n st).and ((jAn W2.heap.size (.cells #[.bool won] 4)).and ((jAn W.heap.size (.cells #[.bool lost] 4)).and ((jAn (w.heap.size + 1) (.cells (rsC jAg none 0) 40)).and ((jAn w.heap.size (.cells #[.pointer (some ⟨k,0,none⟩)] 79)).and ((jA5 0 ia ic i.val).and R)))))) W.heap.size (.bool lost):=fun W HW => jDj HW.right.right.left.q
  go_upto_region 5 with (first
   | (go_at_call 62;refine (kFv H4 hn hkt hkw hkl rfl hok (Rd.right (Rd.right (Rd.right (Rd.right (Rd.left Rd.val)))))).mono ?_;rintro e w5 ⟨⟨v5,rfl⟩,own5,H6⟩;clear H4 k4 hkt hkw hkl;have k5 : w5.cell? ⟨w.heap.size,0,none⟩ = some (.pointer (some ⟨k,0,none⟩)):=jDj H6.right.right.right.right.right.left.q)
   | (go_at_call 64;refine (jNq H6.q.1).mono ?_;rintro e w6 ⟨rfl,hg⟩;have H7:=(H6.step hg).right.box (.cells (rsC (jA8 (jHo c en i won lost) en) ia ic) 40);clear hg H6 k5)
   | (refine stR_ w6.heap.size (jA8 (jHo c en i won lost) en) ia ic rfl _ _ rfl rfl rfl (World.alloc_heap_new w6 _) ?_;rw [jAq];generalize w6.alloc (.cells (rsC (jA8 (jHo c en i won lost) en) ia ic) 40) = w7 at *))
  have H8:=H7.rsWon won
  have HG:=jAa (H8.rsLost lost).drew
  have S0 : Hid (w7.drew.cell? ⟨W2.heap.size,0,none⟩ = some (.bool won) ∧ w7.drew.cell? ⟨W.heap.size,0,none⟩ = some (.bool lost)):=⟨jDj H7.drew.right.right.left.q,jDj H7.drew.right.right.right.left.q⟩
  have S1 : Hid ((w7.setCell ⟨w6.heap.size,7,none⟩ (.bool won)).drew.cell? ⟨W2.heap.size,0,none⟩ = some (.bool won) ∧ (w7.setCell ⟨w6.heap.size,7,none⟩ (.bool won)).drew.cell? ⟨W.heap.size,0,none⟩ = some (.bool lost)):=⟨jDj H8.drew.right.right.left.q,jDj H8.drew.right.right.right.left.q⟩
  have S2 : Hid (((w7.setCell ⟨w6.heap.size,7,none⟩ (.bool won)).setCell ⟨w6.heap.size,8,none⟩ (.bool lost)).drew.cell? ⟨W2.heap.size,0,none⟩ = some (.bool won) ∧ ((w7.setCell ⟨w6.heap.size,7,none⟩ (.bool won)).setCell ⟨w6.heap.size,8,none⟩ (.bool lost)).drew.cell? ⟨W.heap.size,0,none⟩ = some (.bool lost)):=⟨jDj HG.out.right.right.left.q,jDj HG.out.right.right.right.left.q⟩
  obtain ⟨-,-,-,-,-,-,-,c7,c8⟩:=jB4 H7.q.1
  have f7:=H7.rsFree 7
  have f8:=H7.rsFree 8
  clear H7 H8
  go_region_held (fun w' => w'.cell? ⟨W2.heap.size,0,none⟩ = some (.bool won) ∧ w'.cell? ⟨W.heap.size,0,none⟩ = some (.bool lost)) (first | exact S0.out | exact S1.out | exact S2.out) (fail)
  all_goals
   have H9:=HG.out
   clear HG S0 S1 S2 c7 c8 f7 f8
   generalize ((w7.setCell ⟨w6.heap.size,7,none⟩ (.bool won)).setCell ⟨w6.heap.size,8,none⟩ (.bool lost)).drew = w8 at *
   go_wp2_with (first
    | (refine ldR w6.heap.size _ _ _ rfl _ rfl rfl H9.q.1 ?_;have H10:=H9.right.drop2.drop2.rot;clear H9)
    | (refine stR_ (w.heap.size + 1) { jA8 (jHo c en i won lost) en with won:=won,lost:=lost } ia ic rfl _ _ rfl rfl rfl H10.q.1 ?_;have H11:=H10.rsRow { jA8 (jHo c en i won lost) en with won:=won,lost:=lost } ia ic))
   exact jAj rfl H11.q.1 rfl ⟨ia,ic,own5,rfl,H11.right.drop2⟩
end
end
section
set_option linter.unusedVariables false
open Go.RowKit Go.Shelf Go.Sort
variable {Sh : World → Nat → (Nat → Prop) → Nat → Nat → Hs → Prop}
section
variable {L : jA7 Sh} {w0 w : World} {k b sd n : Nat} {own : Nat → Prop} {st : Hs} {c : Cv} {va : Option Addr} {vc : Nat} {en : En} {i : Iv} {ia : Option Addr} {ic : Nat} {R : jAd}
def jC9 (sd : Nat) (h : Hs) (c : Cv) (en : En) (i : Iv) : Rv × Hs :=
 match dec i.val with
 | none => (jAh 8,h)
 | some n => if 20 < i.val.length then (jAh 8,h) else jBc (jBb sd h c.key (jCz (jEa c n)) i.fl i.exp en) (jEa c n)
theorem jUz {l : List UInt8} {n : Nat} (h : dec l = some n) : n < 18446744073709551616:=by
 unfold dec at h
 split at h
 ·cases h
 ·split at h
  ·rename_i u hu
   cases h
   have:=Lib.parseUintB_le hu
   have e : (2 : Nat) ^ 64 - 1 = 18446744073709551615:=by decide
   omega
  ·cases h
theorem jUa (H : Law w0 w ((TnP k b c va vc en i ia ic).and ((shQ L b own sd n st).and R))) (hLd : jBr w0) (hn : n ≤ 4398046511104) (hl : n ≤ 900 ∨ st.slab.bud ≤ 57600) (hen : en.ok) (hc : c.ok) (hi : i.ok) (hv : i.val.length ≤ 3000) (hop : c.op = 10 ∨ c.op = 11) (hrd : Rd w0 R ia ic i.val) :
  Calls Tryz.prog 102 #[.pointer (some ⟨k,0,none⟩)] w (jJ1 L w0 b sd (n + 1) R (jC9 sd st c en i)):=by
 have H0:=H.boxT (.cells (rsC jAg none 0) 40)
 have c16:=jLy H0.q.1
 change (w.alloc (.cells (rsC jAg none 0) 40)).cell? ⟨k,16,none⟩ = some (.slice ia i.val.length ic) at c16
 have hcv:=jLx (hrd.right.bs _ H0.right.right)
 rw [jN6] at hcv
 have hdl : (⟨i.val.toArray⟩ : ByteArray).data.toList = i.val:=by simp
 have hsz : (⟨i.val.toArray⟩ : ByteArray).size ≤ 140737488351232:=by show i.val.toArray.size ≤ _;simp;omega
 obtain ⟨dV,hdV⟩ : ∃ d,jFy i.val = d:=⟨_,rfl⟩
 obtain ⟨dB,hdB⟩ : ∃ d,jE4 i.val = d:=⟨_,rfl⟩
 have HD : Hid (∀ W,jBr W → Calls Tryz.prog 138 #[.string ⟨i.val.toArray⟩] W fun e w' => e = .returned (.tuple #[.int .u64 dV,.bool dB]) ∧ Below W.heap.size W w'):=fun W hW => by
  have h:=kAq ⟨i.val.toArray⟩ hsz W hW
  rw [hdl,hdV,hdB] at h
  exact h
 obtain ⟨ln,hln⟩ : ∃ ln,i.val.length = ln:=⟨_,rfl⟩
 rw [hln] at c16 hcv hv
 rw [← jAi] at c16 hcv
 clear hdl hsz H
 have HLN:=jAa hln
 by_cases hbad : dec i.val = none ∨ 20 < ln
 ·have hr : jC9 sd st c en i = (jAh 8,st):=by
   unfold jC9
   rcases hbad with e | e
   ·rw [e]
   ·split
    ·rfl
    ·rw [if_pos (by rw [hln];exact e)]
  rw [hr]
  have hcase : dB = false ∨ (dB = true ∧ (20 : Int) < (ln : Int)):=by
   rcases hbad with e | e
   ·left
    rw [← hdB]
    unfold jE4
    rw [e]
    rfl
   ·cases dB
    ·exact .inl rfl
    ·exact .inr ⟨rfl,by omega⟩
  clear hr hbad hdV hdB hln
  rcases hcase with rfl | ⟨rfl,h20⟩
  all_goals
   go_enter Tryz.func102,Tryz.ntmps102
   go_wp2_with (first
    | (go_at_call 138;refine (HD.out _ (hLd.on H0.below)).mono ?_;rintro e w1 ⟨rfl,hb⟩;have H1:=H0.step (jB9 hb);have d16:=jLy H1.q.1;change w1.cell? ⟨k,16,none⟩ = some (.slice ia i.val.length ic) at d16;rw [HLN.out] at d16;clear hb c16 hcv H0)
    | (go_at_call 52;refine (jBz 8 _).mono ?_;rintro e w5 ⟨rfl,hg⟩;have H6:=(H1.step hg).right.rot;clear hg)
    | (refine stR_ w.heap.size (jAh 8) none 0 rfl _ _ rfl rfl rfl H6.q.1 ?_;have H7:=H6.rsRow (jAh 8) none 0))
   exact jAj rfl H7.q.1 rfl ⟨own,rfl,H7.right.shMono (Nat.le_succ n) (hl.imp Nat.succ_le_succ id)⟩
 ·have h20 : (ln : Int) ≤ 20:=by omega
  obtain ⟨x,hx⟩ : ∃ x,dec i.val = some x:=by
   cases hd : dec i.val with
   | none => exact absurd (.inl hd) hbad
   | some x => exact ⟨x,rfl⟩
  obtain ⟨y,hy⟩ : ∃ y : Nat,jEa c x = (y : Int):=by
   have h1 : 0 ≤ jEa c x:=by
    have:=hc.del
    unfold U64 at this
    unfold jEa
    repeat' split
    all_goals omega
   exact Int.eq_ofNat_of_zero_le h1
  have hxb:=jUz hx
  have hyb : y < 18446744073709551616:=by
   have h1:=hc.del
   unfold U64 at h1
   have h2 : jEa c x < 18446744073709551616:=by
    unfold jEa
    repeat' split
    all_goals omega
   omega
  have hr : jC9 sd st c en i = jBc (jBb sd st c.key (jCz (y : Int)) i.fl i.exp en) y:=by
   unfold jC9
   rw [hx]
   dsimp only
   rw [if_neg (by rw [hln];omega),hy]
  rw [hr]
  have e1 : dV = (x : Int):=by rw [← hdV];unfold jFy;rw [hx];rfl
  have e2 : dB = true:=by rw [← hdB];unfold jE4;rw [hx];rfl
  rw [e1,e2] at HD
  clear hr hbad hdV hdB hln e1 e2 hx
  have HY:=jAa hy
  clear hy
  rcases hop with hop | hop
  ·have c1f : IntKind.u64.wrap ((x : Int) + c.del) = (y : Int):=by
    rw [← HY.out]
    unfold jEa
    rw [if_pos hop]
    rfl
   go_enter Tryz.func102,Tryz.ntmps102
   go_upto_region 7 with (go_at_call 138;refine (HD.out _ (hLd.on H0.below)).mono ?_;rintro e w1 ⟨rfl,hb⟩;have H1:=H0.step (jB9 hb);have d16:=jLy H1.q.1;change w1.cell? ⟨k,16,none⟩ = some (.slice ia i.val.length ic) at d16;rw [HLN.out] at d16;have d1:=jCh H1.q.1;rw [hop] at d1;have d7:=kIo H1.q.1;clear hb c16 hcv H0)
   try rw [c1f]
   clear d16 d1 d7
   have d17:=kHg H1.q.1
   have d18:=jLz H1.q.1
   change w1.cell? ⟨k,17,none⟩ = some (.int .u32 i.fl) at d17
   change w1.cell? ⟨k,18,none⟩ = some (.int .i64 i.exp) at d18
   have HH:=jAa H1
   clear H1
   refine jB7 12 (by kernel_rfl) (by simp) (by kernel_rfl) ?_
   simp only [List.take_succ_cons,List.take_zero,List.drop_succ_cons,List.drop_zero]
   repeat (quiet_step (fail))
   refine wpQuiet_nil ?_
   intro _ hw'
   obtain ⟨nq,rfl⟩:=hw'
   have H2:=HH.out.drewN nq
   clear HH d17 d18
   generalize w1.drewN nq = w2 at *
   go_wp2_with (first
    | (go_at_call 58;refine (jHh H2 hLd hn hl hen y hyb i.fl i.exp hc.key hi.exp).mono ?_;rintro e w3 ⟨own3,rfl,H3⟩;have H4:=H3.rot;clear H3 H2)
    | (refine stR_ w.heap.size (jBc (jBb sd st c.key (jCz (y : Int)) i.fl i.exp en) y).1 none 0 rfl _ _ rfl rfl rfl H4.q.1 ?_;have H5:=H4.rsRow (jBc (jBb sd st c.key (jCz (y : Int)) i.fl i.exp en) y).1 none 0))
   exact jAj rfl H5.q.1 rfl ⟨own3,rfl,H5.right⟩
  ·have hdl:=hc.del
   unfold U64 at hdl
   have c1f : (x : Int) - min (x : Int) c.del = (y : Int):=by
    rw [← HY.out]
    unfold jEa
    rw [if_neg (by rw [hop];decide)]
    split <;> omega
   go_enter Tryz.func102,Tryz.ntmps102
   go_upto_region 7 with (go_at_call 138;refine (HD.out _ (hLd.on H0.below)).mono ?_;rintro e w1 ⟨rfl,hb⟩;have H1:=H0.step (jB9 hb);have d16:=jLy H1.q.1;change w1.cell? ⟨k,16,none⟩ = some (.slice ia i.val.length ic) at d16;rw [HLN.out] at d16;have d1:=jCh H1.q.1;rw [hop] at d1;have d7:=kIo H1.q.1;clear hb c16 hcv H0)
   try rw [c1f]
   clear d16 d1 d7
   have d17:=kHg H1.q.1
   have d18:=jLz H1.q.1
   change w1.cell? ⟨k,17,none⟩ = some (.int .u32 i.fl) at d17
   change w1.cell? ⟨k,18,none⟩ = some (.int .i64 i.exp) at d18
   have HH:=jAa H1
   clear H1
   refine jB7 12 (by kernel_rfl) (by simp) (by kernel_rfl) ?_
   simp only [List.take_succ_cons,List.take_zero,List.drop_succ_cons,List.drop_zero]
   repeat (quiet_step (fail))
   refine wpQuiet_nil ?_
   intro _ hw'
   obtain ⟨nq,rfl⟩:=hw'
   have H2:=HH.out.drewN nq
   clear HH d17 d18
   generalize w1.drewN nq = w2 at *
   go_wp2_with (first
    | (go_at_call 58;refine (jHh H2 hLd hn hl hen y hyb i.fl i.exp hc.key hi.exp).mono ?_;rintro e w3 ⟨own3,rfl,H3⟩;have H4:=H3.rot;clear H3 H2)
    | (refine stR_ w.heap.size (jBc (jBb sd st c.key (jCz (y : Int)) i.fl i.exp en) y).1 none 0 rfl _ _ rfl rfl rfl H4.q.1 ?_;have H5:=H4.rsRow (jBc (jBb sd st c.key (jCz (y : Int)) i.fl i.exp en) y).1 none 0))
   exact jAj rfl H5.q.1 rfl ⟨own3,rfl,H5.right⟩
end
end
section
set_option linter.unusedVariables false
open Go.RowKit Go.Shelf Go.Sort
variable {Sh : World → Nat → (Nat → Prop) → Nat → Nat → Hs → Prop}
section
variable {L : jA7 Sh} {w0 w : World} {k b sd n : Nat} {own : Nat → Prop} {st : Hs} {c : Cv} {va : Option Addr} {vc : Nat} {en : En} {i : Iv} {ia : Option Addr} {ic : Nat} {R : jAd}
theorem jRc {g j : Nat} (h : g ≠ j) : ∀ (vs : List Value) (o : Nat) (W : World) (x : Nat),(W.setCells g o vs).cell? ⟨j,x,none⟩ = W.cell? ⟨j,x,none⟩
 | [],_,_,_ => rfl
 | v :: vs,o,W,x => (jRc h vs (o + 1) _ x).trans (World.cell?_setCell_far W _ _ v h)
def jG5 (sd : Nat) (h : Hs) (key : ByteArray) (u v : List UInt8) (i : Iv) (en : En) : Rv × Hs:=if 1000 < u.length + v.length then (jAh 9,h) else jBb sd h key (u ++ v) i.fl i.exp en
abbrev SB (k : Nat) (i : Iv) (w : World) : Prop:=w.cell? ⟨k,17,none⟩ = some (.int .u32 i.fl) ∧ w.cell? ⟨k,18,none⟩ = some (.int .i64 i.exp)
theorem jTc {t : TypeId} (h : w.heap[k]? = some (.cells (tuC b c va vc en (jAe i ia ic)) t (0,0))) : SB k i w:=⟨jB5 h 17 _ rfl,jB5 h 18 _ rfl⟩
theorem kNu {t : TypeId} {j : Iv} {ja : Option Addr} {jc : Nat} {v : List UInt8} {a' : Option Addr} {c' : Nat} {key : ByteArray} {p : Prop} (h : w.heap[k]? = some (.cells (tuC b c va vc en (jAe j ja jc)) t (0,0))) (h1 : p → j = jBf key v i.fl i.exp en ∧ ja = a' ∧ jc = c') (h2 : ¬ p → j = i ∧ ja = ia ∧ jc = ic) : SB k i w:=by
 by_cases hp : p
 ·obtain ⟨rfl,-,-⟩:=h1 hp
  exact jTc (i:=jBf key v i.fl i.exp en) h
 ·obtain ⟨rfl,-,-⟩:=h2 hp
  exact jTc h
theorem jOn (H : Law w0 w ((TnP k b c va vc en i ia ic).and ((shQ L b own sd n st).and R))) (hn : n ≤ 4398046511104) (hl : n ≤ 900 ∨ st.slab.bud ≤ 57600) (hen : en.ok) (hc : c.ok) (hi : i.ok) {u v : List UInt8} {ua xa : Option Addr} {uc xc : Nat} (hu : Rd w0 R ua uc u) (hv : Rd w0 R xa xc v) (hul : u.length ≤ 140737488351232) (hvl : v.length ≤ 140737488351232) :
  Calls Tryz.prog 101 #[.pointer (some ⟨k,0,none⟩),.slice ua u.length uc,.slice xa v.length xc] w (jJ1 L w0 b sd (n + 1) R (jG5 sd st c.key u v i en)):=by
 have H0:=H.boxT (.cells (rsC jAg none 0) 40)
 obtain ⟨p,hp⟩ : ∃ p,u.length = p:=⟨_,rfl⟩
 obtain ⟨q,hq⟩ : ∃ q,v.length = q:=⟨_,rfl⟩
 have e1 : wrap64 ((p : Int) + (q : Int)) = (p : Int) + (q : Int):=by rw [hp] at hul;rw [hq] at hvl;unfold wrap64;omega
 by_cases h9 : 1000 < u.length + v.length
 ·have hr : jG5 sd st c.key u v i en = (jAh 9,st):=if_pos h9
  rw [hr]
  have h9i : (1000 : Int) < (p : Int) + (q : Int):=by omega
  rw [hp,hq]
  clear hr H
  go_enter Tryz.func101,Tryz.ntmps101
  go_wp2_with (first
   | (go_at_call 52;refine (jBz 9 _).mono ?_;rintro e w5 ⟨rfl,hg⟩;have H6:=(H0.step hg).right.rot;clear hg)
   | (refine stR_ w.heap.size (jAh 9) none 0 rfl _ _ rfl rfl rfl H6.q.1 ?_;have H7:=H6.rsRow (jAh 9) none 0))
  exact jAj rfl H7.q.1 rfl ⟨own,rfl,H7.right.shMono (Nat.le_succ n) (hl.imp Nat.succ_le_succ id)⟩
 ·have hr : jG5 sd st c.key u v i en = jBb sd st c.key (u ++ v) i.fl i.exp en:=if_neg h9
  rw [hr]
  obtain ⟨r,hpr⟩ : ∃ r,jBb sd st c.key (u ++ v) i.fl i.exp en = r:=⟨_,rfl⟩
  rw [hpr]
  have HPR:=jAa hpr
  have h9i : ¬ ((1000 : Int) < (p : Int) + (q : Int)):=by omega
  have hlen : u.length + v.length ≤ 50000:=by omega
  have hvb : (u ++ v).length ≤ 140737488351232:=by
   rw [List.length_append]
   have : (1000 : Nat) ≤ 140737488351232:=by decide
   omega
  have HU:=jAa hp
  have HV:=jAa hq
  have HUV : Hid ((u ++ v).length = p + q):=by show (u ++ v).length = _;rw [List.length_append,hp,hq]
  rw [hp,hq]
  clear hr H hpr h9
  go_enter Tryz.func101,Tryz.ntmps101
  go_upto_region 3 with fail
  rw [jAi]
  generalize w.alloc (.cells (rsC jAg none 0) 40) = W at *
  have HW:=jAa H0
  have q1:=jAa (jTc H0.drew.q.1)
  clear H0 hul hvl e1 h9i
  have HB:=jAa (HW.out.box (.cells #[.slice ua p uc,.slice xa q xc] 30)).drew
  have HT : Hid (Two (W.alloc (.cells #[.slice ua p uc,.slice xa q xc] 30)).drew W.heap.size ua xa uc xc u v):=by
   have h1 : (W.alloc (.cells #[.slice ua p uc,.slice xa q xc] 30)).drew.heap[W.heap.size]? = some (.cells #[.slice ua p uc,.slice xa q xc] 30 (0,0)):=HB.out.q.1
   exact ⟨by rw [HU.out];unfold World.cell?;rw [h1];rfl,by rw [HV.out];unfold World.cell?;rw [h1];rfl,hu.bs _ HB.out.right.right.right.right,hv.bs _ HB.out.right.right.right.right,(Array.getElem?_eq_some_iff.1 h1).1⟩
  refine wp_region_held_drew (S:=SB k i) (by kernel_rfl) q1.out (fun hHeld => ?_)
  refine wpAnyH_take (i:=0) (v:=(.pointer (some ⟨k,0,none⟩))) rfl (by kernel_rfl) (by kernel_rfl) (by kernel_rfl) (fun _ _ _ h => h) (Or.inl ⟨by rfl,?_⟩) hHeld ?_
  ·intro w hSw
   try dsimp only at hSw
   go_simp
  simp only [Act.put]
  refine wpAnyH_take (i:=1) (v:=(.slice ua p uc)) rfl (by kernel_rfl) (by kernel_rfl) (by kernel_rfl) (fun _ _ _ h => h) (Or.inl ⟨by rfl,?_⟩) hHeld ?_
  ·intro w hSw
   try dsimp only at hSw
   go_simp
  simp only [Act.put]
  refine wpAnyH_take (i:=2) (v:=(.slice xa q xc)) rfl (by kernel_rfl) (by kernel_rfl) (by kernel_rfl) (fun _ _ _ h => h) (Or.inl ⟨by rfl,?_⟩) hHeld ?_
  ·intro w hSw
   try dsimp only at hSw
   go_simp
  simp only [Act.put]
  refine wpAnyH_take (i:=5) (v:=(.pointer (some ⟨k,0,none⟩))) rfl (by kernel_rfl) (by kernel_rfl) (by kernel_rfl) (fun _ _ _ h => h) (Or.inl ⟨by rfl,?_⟩) hHeld ?_
  ·intro w hSw
   try dsimp only at hSw
   go_simp
  simp only [Act.put]
  refine wpAnyH_take (i:=6) (v:=(.pointer (some ⟨k,0,none⟩))) rfl (by kernel_rfl) (by kernel_rfl) (by kernel_rfl) (fun _ _ _ h => h) (Or.inl ⟨by rfl,?_⟩) hHeld ?_
  ·intro w hSw
   try dsimp only at hSw
   go_simp
  simp only [Act.put]
  refine wpAnyH_take (i:=7) (v:=(.pointer (some ⟨k,15,none⟩))) rfl (by kernel_rfl) (by kernel_rfl) (by kernel_rfl) (fun _ _ _ h => h) (Or.inl ⟨by rfl,?_⟩) hHeld ?_
  ·intro w hSw
   try dsimp only at hSw
   go_simp
  simp only [Act.put]
  refine wpAnyH_take (i:=8) (v:=(.pointer (some ⟨k,17,none⟩))) rfl (by kernel_rfl) (by kernel_rfl) (by kernel_rfl) (fun _ _ _ h => h) (Or.inl ⟨by rfl,?_⟩) hHeld ?_
  ·intro w hSw
   try dsimp only at hSw
   go_simp
  simp only [Act.put]
  refine wpAnyH_take (i:=9) (v:=(.int .u32 i.fl)) rfl (by kernel_rfl) (by kernel_rfl) (by kernel_rfl) (fun _ _ _ h => h) (Or.inl ⟨by rfl,?_⟩) hHeld ?_
  ·intro w hSw
   try dsimp only at hSw
   go_simp
  simp only [Act.put]
  refine wpAnyH_take (i:=10) (v:=(.pointer (some ⟨k,0,none⟩))) rfl (by kernel_rfl) (by kernel_rfl) (by kernel_rfl) (fun _ _ _ h => h) (Or.inl ⟨by rfl,?_⟩) hHeld ?_
  ·intro w hSw
   try dsimp only at hSw
   go_simp
  simp only [Act.put]
  refine wpAnyH_take (i:=11) (v:=(.pointer (some ⟨k,0,none⟩))) rfl (by kernel_rfl) (by kernel_rfl) (by kernel_rfl) (fun _ _ _ h => h) (Or.inl ⟨by rfl,?_⟩) hHeld ?_
  ·intro w hSw
   try dsimp only at hSw
   go_simp
  simp only [Act.put]
  refine wpAnyH_take (i:=12) (v:=(.pointer (some ⟨k,15,none⟩))) rfl (by kernel_rfl) (by kernel_rfl) (by kernel_rfl) (fun _ _ _ h => h) (Or.inl ⟨by rfl,?_⟩) hHeld ?_
  ·intro w hSw
   try dsimp only at hSw
   go_simp
  simp only [Act.put]
  refine wpAnyH_take (i:=13) (v:=(.pointer (some ⟨k,18,none⟩))) rfl (by kernel_rfl) (by kernel_rfl) (by kernel_rfl) (fun _ _ _ h => h) (Or.inl ⟨by rfl,?_⟩) hHeld ?_
  ·intro w hSw
   try dsimp only at hSw
   go_simp
  simp only [Act.put]
  refine wpAnyH_take (i:=14) (v:=(.int .i64 i.exp)) rfl (by kernel_rfl) (by kernel_rfl) (by kernel_rfl) (fun _ _ _ h => h) (Or.inl ⟨by rfl,?_⟩) hHeld ?_
  ·intro w hSw
   try dsimp only at hSw
   go_simp
  simp only [Act.put]
  refine wpAnyH_ready (rs:=[3]) (by kernel_rfl) (by simp) ?_
  refine AllReadyH.cons rfl (fun K hK => ?_) AllReadyH.nil
  go_simp
  refine hK.out _ _ (jTc (HW.out.alloc _).drew.q.1) (fun hHeld => ?_)
  clear hK K
  refine wpAnyH_ready (rs:=[4]) (by kernel_rfl) (by simp) ?_
  refine AllReadyH.cons rfl (fun K hK => ?_) AllReadyH.nil
  go_simp
  go_wp2_with (go_at_call 137;refine (kLt HT.out hlen).mono ?_;rintro e w4 ⟨v4,rfl,hown,hg⟩;obtain ⟨a4,c4,rfl⟩:=jAr hown;have H4:=(((HB.out.new (A:=jA5 _ a4 c4 (u ++ v)) hg hown (fun j hj => ⟨(jCw hown hj).1,(jCw hown hj).2.1⟩)).drop2).rot.rin);have q4:=jAa (jTc H4.q.1);clear hown hg)
  refine hK.out _ _ q4.out (fun hHeld => ?_)
  clear hK K
  have hsa:=jI7 H4 hn hl hen (u ++ v) a4 c4 i.fl i.exp hc.key hvb hi.exp (Rd.left Rd.val)
  rw [HPR.out,HUV.out] at hsa
  have HSA:=jAa hsa
  clear hsa
  refine wpAnyH_ready (rs:=[15]) (by kernel_rfl) (by simp) ?_
  refine AllReadyH.cons rfl (fun K hK => ?_) AllReadyH.nil
  go_simp
  go_wp2_with (go_at_call 94;refine HSA.out.mono ?_;rintro e w5 ⟨rfl,own5,j5,ja5,jc5,H5,h5⟩;have q5:=jAa (kNu H5.q.1 h5.1 h5.2);have H6:=H5.right.drop2.rot;clear h5)
  refine hK.out _ _ q5.out (fun hHeld => ?_)
  clear hK K HSA H4 q4
  have ht : w5.there w.heap.size 0 9:=fun j hj => ⟨by unfold World.cell?;rw [H6.q.1];match j,hj with | 0,_ | 1,_ | 2,_ | 3,_ | 4,_ | 5,_ | 6,_ | 7,_ | 8,_ => rfl,frozen_of_row _ _ _ _ _ H6.q.1⟩
  have H7:=Law.setL H6 0 (rsC r.1 none 0).toList
  rw [show setL (rsC jAg none 0) 0 (rsC r.1 none 0).toList = rsC r.1 none 0 by simp [setL,rsC]] at H7
  have q6 : SB k i (w5.setCells w.heap.size 0 (rsC r.1 none 0).toList):=by
   have hne : w.heap.size ≠ k:=fun e => by
    have h8:=H5.q.2.2 k rfl
    exact h8 (.inr (.inr (.inl e.symm)))
   exact ⟨(jRc hne _ _ _ _).trans q5.out.1,(jRc hne _ _ _ _).trans q5.out.2⟩
  refine wpAnyH_ready (rs:=[16]) (by kernel_rfl) (by simp) ?_
  refine AllReadyH.cons rfl (fun K hK => ?_) AllReadyH.nil
  rw [if_pos (by rfl)]
  refine wp_store_mid _ _ _ rfl w.heap.size 0 (rsC r.1 none 0) rfl rfl ht (jNo _ _ _) (kBb _ _ _) ?_
  refine hK.out _ _ q6 (fun hHeld => ?_)
  clear hK K
  refine wpAnyH_done (by kernel_rfl) ?_ _
  clear q5 q6 ht H5 H6
  generalize w5.setCells w.heap.size 0 (rsC r.1 none 0).toList = w6 at *
  go_wp2
  exact jAj rfl H7.q.1 rfl ⟨own5,rfl,H7.right⟩
end
end
end Go.Proofs.YtkfeafmpaodagaaGreatDoor
