/- Two slices of texts held against each other by the statements' own helper. Conditions: none. The document's own answer of whether two items are the same. Conditions: the bytes of both values can be read. -/
import Derived.Test.YtkfeafmpaodagaaGreatDoorG02Joined
import Derived.Test.YtkfeafmpaodagaaGreatDoorG00Joined
import Derived.Deep.QuietTactic
import Derived.BigQuiet
import Derived.Test.YtkfeafmpaodagaaGreatDoorG21Joined
namespace Go.Proofs.YtkfeafmpaodagaaGreatDoor
set_option maxHeartbeats 16000000
section
open Go.RowKit Go.Shelf
def jF5 (w : World) (v : Value) (xs : List ByteArray) : Prop :=
 ∃ a cap,v = .slice a xs.length cap ∧ (∀ i,i < xs.length → ∃ b off,a = some ⟨b,off,none⟩ ∧ w.cell? ⟨b,off + i,none⟩ = some (.string (xs.getD i ⟨#[]⟩))) ∧ (a = none → cap = 0)
theorem jEy {w : World} {base : Nat} {v : Value} {xs : List ByteArray} (h : w.ownsRow base 9 1 v xs.length (jB6 xs)) : jF5 w v xs:=by
 rcases h.2 with ⟨rfl,h0⟩ | ⟨g,cap,cur,rfl,hg,hh,r⟩
 ·exact ⟨none,0,by rw [h0],fun i hi => by omega,fun _ => rfl⟩
 ·refine ⟨some ⟨g,0,none⟩,cap,rfl,fun i hi => ⟨g,0,rfl,?_⟩,fun e => by cases e⟩
  have h' : w.ownsRow base 9 1 (.slice (some ⟨g,0,none⟩) xs.length cap) xs.length (jB6 xs):=h
  rw [Nat.zero_add,h'.cellAt i (by omega),jB6,List.getElem?_map,List.getElem?_eq_getElem hi]
  simp [List.getD,List.getElem?_eq_getElem hi]
theorem jXi {w : World} {base n cap : Nat} {pa : Option Addr} {xs : List ByteArray} (h : w.ownsRow base 9 1 (.slice pa n cap) n (jB6 xs)) (k : Nat) (hk : k < xs.length) (hn : xs.length = n) : ∃ g,pa = some ⟨g,0,none⟩ ∧ w.cell? ⟨g,k,none⟩ = some (.string xs[k]):=by
 obtain ⟨g,cap',e⟩:=jCk h (by omega)
 cases e
 refine ⟨g,rfl,?_⟩
 rw [h.cellAt k (by omega),jB6,List.getElem?_map,List.getElem?_eq_getElem hk]
 rfl
theorem kFu {w : World} {base n cap : Nat} {pa : Option Addr} {xs : List ByteArray} (h : w.ownsRow base 9 1 (.slice pa n cap) n (jB6 xs)) (k : Nat) (x : ByteArray) (hx : xs[k]? = some x) (hn : xs.length = n) : ∃ g,pa = some ⟨g,0,none⟩ ∧ w.cell? ⟨g,k,none⟩ = some (.string x):=by
 obtain ⟨hk,e⟩:=List.getElem?_eq_some_iff.1 hx
 rw [← e]
 exact jXi h k hk hn
theorem str_eq {x y : ByteArray} (h : x.toList = y.toList) : x = y:=by
 rw [ByteArray.toList_eq,ByteArray.toList_eq] at h
 exact ByteArray.ext (Array.toList_inj.1 h)
theorem jPf {x y : ByteArray} (h : x ≠ y) : (x.toList == y.toList) = false:=beq_eq_false_iff_ne.2 fun e => h (str_eq e)
theorem kOg (w : World) (v u : Value) (xs : List ByteArray) (hx : xs.length ≤ 140737488351232) (hv : jF5 w v xs) (hu : jF5 w u xs) :
  Calls Tryz.prog 17 #[v,u] w fun e w' => e = .returned (.bool true) ∧ w.grownBy w' none:=by
 obtain ⟨a,c,rfl,ha,-⟩:=hv
 obtain ⟨b,d,rfl,hb,-⟩:=hu
 obtain ⟨n,hn⟩ : ∃ n,xs.length = n:=⟨_,rfl⟩
 rw [hn] at ha hb hx ⊢
 go_enter Tryz.func17,Tryz.ntmps17
 go_wp2
 go_loopw [5] (fun i wr => ∃ k j : Nat,k ≤ n ∧ i = .int .i64 k ∧ wr = w.drewN j) (fun i _ => n - (intOf i).toNat)
 case atStart => exact ⟨0,0,Nat.zero_le _,rfl,(World.drewN_zero w).symm⟩
 case round =>
  obtain ⟨k,j,hk,rfl,rfl⟩:=hrel
  by_cases hlt : k < n
  ·obtain ⟨b1,o1,rfl,c1⟩:=ha k hlt
   obtain ⟨b2,o2,rfl,c2⟩:=hb k hlt
   obtain ⟨x,hxx⟩ : ∃ x,x = xs.getD k ⟨#[]⟩:=⟨_,rfl⟩
   rw [← hxx] at c1 c2
   have hki : (k : Int) < (n : Int):=by omega
   clear ha hb hxx
   go_wp2
   go_quiet (fail)
   go_wp2
   go_roundw
   case rel => exact ⟨k + 1,_,by omega,by go_num,rfl⟩
   case measure => simp [intOf];omega
  ·go_wp2
   go_ret
   exact ⟨rfl,rfl,rfl,rfl,Nat.le_refl _,fun _ _ _ => rfl⟩
end
section
open Go.RowKit Go.Shelf
theorem kKp {u v : List UInt8} (h : u ≠ v) : ((⟨u.toArray⟩ : ByteArray).toList == (⟨v.toArray⟩ : ByteArray).toList) = false:=jPf fun e => h (by
 have:=congrArg (fun b : ByteArray => b.data.toList) e
 simpa using this)
set_option maxRecDepth 100000 in
theorem kDb (i1 i2 : Iv) (a1 a2 : Option Addr) (c1 c2 : Nat) (w : World) (h1 : Bs w a1 i1.val.length c1 (jA6 i1.val)) (h2 : Bs w a2 i2.val.length c2 (jA6 i2.val)) :
  Calls Tryz.prog 46 #[.agg (itC (jAe i1 a1 c1)),.agg (itC (jAe i2 a2 c2))] w fun e w' => ∃ q : Bool,e = .returned (.bool q) ∧ (i1 = i2 → q = true) ∧ w.grownBy w' none:=by
 have g0:=jAt (World.grownBy_alloc w (.cells (itC (jAe i1 a1 c1)) 75) none) (World.grownBy_alloc (w.alloc (.cells (itC (jAe i1 a1 c1)) 75)) (.cells (itC (jAe i2 a2 c2)) 75) none)
 have v1c:=jLx ((h1.alloc (.cells (itC (jAe i1 a1 c1)) 75)).alloc (.cells (itC (jAe i2 a2 c2)) 75))
 have v2c:=jLx ((h2.alloc (.cells (itC (jAe i1 a1 c1)) 75)).alloc (.cells (itC (jAe i2 a2 c2)) 75))
 rw [jN6] at v1c v2c
 clear h1 h2
 obtain ⟨k1,u1,f1,x1,s1,t1,q1,b1,o1,n1⟩:=i1
 obtain ⟨k2,u2,f2,x2,s2,t2,q2,b2,o2,n2⟩:=i2
 have G:=jAa g0
 clear g0
 unfold jAe itC at *
 dsimp only at *
 go_enter Tryz.func46,Tryz.ntmps46
 by_cases he : k1 = k2
 case neg =>
  have hb:=jPf he
  have HN:=jAa he
  clear he
  go_wp2
  go_ret
  exact ⟨false,rfl,fun e => absurd (congrArg Iv.key e) HN.out,G.out⟩
 subst he
 by_cases he : u1 = u2
 case neg =>
  have hb:=kKp he
  have HN:=jAa he
  clear he
  go_wp2
  go_ret
  exact ⟨false,rfl,fun e => absurd (congrArg Iv.val e) HN.out,G.out⟩
 subst he
 by_cases he : f1 = f2
 case neg =>
  have hb:=beq_eq_false_iff_ne.2 he
  have HN:=jAa he
  clear he
  go_wp2
  go_ret
  exact ⟨false,rfl,fun e => absurd (congrArg Iv.fl e) HN.out,G.out⟩
 subst he
 by_cases he : x1 = x2
 case neg =>
  have hb:=beq_eq_false_iff_ne.2 he
  have HN:=jAa he
  clear he
  go_wp2
  go_ret
  exact ⟨false,rfl,fun e => absurd (congrArg Iv.exp e) HN.out,G.out⟩
 subst he
 by_cases he : s1 = s2
 case neg =>
  have hb:=beq_eq_false_iff_ne.2 he
  have HN:=jAa he
  clear he
  go_wp2
  go_ret
  exact ⟨false,rfl,fun e => absurd (congrArg Iv.cas e) HN.out,G.out⟩
 subst he
 by_cases he : t1 = t2
 case neg =>
  have hb:=beq_eq_false_iff_ne.2 he
  have HN:=jAa he
  clear he
  go_wp2
  go_ret
  exact ⟨false,rfl,fun e => absurd (congrArg Iv.sec e) HN.out,G.out⟩
 subst he
 by_cases he : q1 = q2
 case neg =>
  have hb:=beq_eq_false_iff_ne.2 he
  have HN:=jAa he
  clear he
  go_wp2
  go_ret
  exact ⟨false,rfl,fun e => absurd (congrArg Iv.seq e) HN.out,G.out⟩
 subst he
 by_cases he : b1 = b2
 case neg =>
  have hb:=beq_eq_false_iff_ne.2 he
  have HN:=jAa he
  clear he
  go_wp2
  go_ret
  exact ⟨false,rfl,fun e => absurd (congrArg Iv.st e) HN.out,G.out⟩
 subst he
 by_cases he : o1 = o2
 case neg =>
  have hb:=beq_eq_false_iff_ne.2 he
  have HN:=jAa he
  clear he
  go_wp2
  go_ret
  exact ⟨false,rfl,fun e => absurd (congrArg Iv.won e) HN.out,G.out⟩
 subst he
 by_cases he : n1 = n2
 case neg =>
  have hb:=beq_eq_false_iff_ne.2 he
  have HN:=jAa he
  clear he
  go_wp2
  go_ret
  exact ⟨false,rfl,fun e => absurd (congrArg Iv.seen e) HN.out,G.out⟩
 subst he
 go_wp2
 go_ret
 exact ⟨by simp,G.out⟩
end
end Go.Proofs.YtkfeafmpaodagaaGreatDoor
