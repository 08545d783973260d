/- What package table does in one bucket: where a text stands. Conditions: at most 100000 entries. What package table does in one bucket: get and put. Conditions: at most 100000 entries. What package table does in one bucket: take, over slices.Delete. Conditions: at most 50000 entries. Where package table looks for a text. Conditions: at most 20000 buckets, texts of at most 300 bytes. The table in memory: its head, two rows of buckets, and their entries; New, Len, Buckets, Left, grow. Conditions: none. -/
import Derived.Test.YtkfeafmpaodagaaGreatDoorG16Joined
import Derived.WalkKit
import Derived.Laws.CopyRow
import Derived.Deep.RegionHeldLaw
import Derived.RegionTactic
import Derived.Deep.CutBlock
import Derived.Deep.CutRange
import Derived.Deep.QuietTactic
import Derived.BigQuiet
import Derived.Test.YtkfeafmpaodagaaGreatDoorG05Joined
namespace Go.Proofs.YtkfeafmpaodagaaGreatDoor
set_option maxHeartbeats 16000000
set_option maxRecDepth 100000
section
open Go.RowKit
theorem kOp {x y : ByteArray} (h : x ≠ y) : (x.toList == y.toList) = false:=beq_eq_false_iff_ne.2 fun e => h (by
 rw [ByteArray.toList_eq,ByteArray.toList_eq] at e
 exact ByteArray.ext (Array.toList_inj.1 e))
theorem jDb {w w' : World} {k i : Nat} {v : Value} (hg : w.grownBy w' none) (h : w.cell? ⟨k,i,none⟩ = some v) : w'.cell? ⟨k,i,none⟩ = some v:=by
 by_cases hk : k < w.heap.size
 ·have e:=hg.block k hk (by simp)
  unfold World.cell? at h ⊢
  rw [e]
  exact h
 ·unfold World.cell? at h
  rw [Array.getElem?_eq_none (Nat.le_of_not_lt hk)] at h
  cases h
theorem kF0 (k : ByteArray) (x : Int) (bx : Nat) (W : World) (hc : W.cell? ⟨bx,0,none⟩ = some (.string k)) : Calls Tryz.prog 189 #[.agg #[.string k,.pointer (some ⟨Int.toNat x,0,none⟩)],.pointer (some ⟨bx,0,none⟩)] W fun e w' => e = .returned (.bool true) ∧ W.grownBy w' none:=by
 have hg:=World.grownBy_alloc W (.cells #[.string k,.pointer (some ⟨Int.toNat x,0,none⟩)] 184) none
 have hc2:=jDb hg hc
 go_enter Tryz.func189,Tryz.ntmps189
 go_wp2
 go_ret
 exact ⟨rfl,hg⟩
theorem jY1 (a k : ByteArray) (x : Int) (hne : a ≠ k) (bx : Nat) (W : World) (hc : W.cell? ⟨bx,0,none⟩ = some (.string k)) : Calls Tryz.prog 189 #[.agg #[.string a,.pointer (some ⟨Int.toNat x,0,none⟩)],.pointer (some ⟨bx,0,none⟩)] W fun e w' => e = .returned (.bool false) ∧ W.grownBy w' none:=by
 have hg:=World.grownBy_alloc W (.cells #[.string a,.pointer (some ⟨Int.toNat x,0,none⟩)] 184) none
 have hc2:=jDb hg hc
 have hs:=kOp hne
 go_enter Tryz.func189,Tryz.ntmps189
 go_wp2
 go_ret
 exact ⟨rfl,hg⟩
theorem jEg {w w' : World} {e : TypeId} {size n : Nat} {v : Value} {xs : List Value} (h : w.ownsRow 0 e size v n xs) (hg : w.grownBy w' none) : w'.ownsRow 0 e size v n xs:=jGy h fun k hk => hg.block k (jCw h hk).2.1 (by simp)
theorem kNl {w : World} {v : Value} {pre post : List Kv} {k : ByteArray} {x : Int} (hv : jKe w v (pre ++ (k,x) :: post)) (hn : (pre ++ (k,x) :: post).length ≤ 100000) (hpre : ∀ p ∈ pre,p.1 ≠ k) (bx : Nat) (hb : w.cell? ⟨bx,0,none⟩ = some (.string k)) :
  Calls Tryz.prog 188 #[v,.func (.func 189) #[] #[.pointer (some ⟨bx,0,none⟩)]] w fun e w' => e = .returned (.int .i64 (pre.length : Nat)) ∧ w.grownBy w' none:=by
 obtain ⟨pa,cap,rfl⟩:=jAr hv
 obtain ⟨n,hln⟩ : ∃ n,(pre ++ (k,x) :: post).length = n:=⟨_,rfl⟩
 obtain ⟨m,hlm⟩ : ∃ m,pre.length = m:=⟨_,rfl⟩
 have hmn : m < n:=by rw [← hln,← hlm,List.length_append,List.length_cons];omega
 unfold jKe at hv
 rw [hln] at hn hv ⊢
 rw [hlm]
 have HV : Hid (w.ownsRow 0 184 2 (.slice pa n cap) n (enV (pre ++ (k,x) :: post))):=hv
 have hN:=jAa hln
 have hM:=jAa hlm
 clear hv hln hlm
 go_enter Tryz.func188,Tryz.ntmps188
 go_wp2
 go_loopw [5,8] (fun _ i wr => ∃ j : Nat,j ≤ m ∧ i = .int .i64 j ∧ Hid (w.grownBy wr none)) (fun _ i _ => n - (intOf i).toNat)
 case atStart => exact ⟨0,Nat.zero_le _,rfl,jDg _ _⟩
 case round =>
  obtain ⟨j,hj,rfl,HG⟩:=hrel
  have hji : (j : Int) < (n : Int):=by omega
  have hbw:=jDb HG.out hb
  by_cases hlt : j < m
  ·have hp : (pre ++ (k,x) :: post)[j]? = some (pre[j]'(by rw [hM.out];exact hlt)):=by rw [List.getElem?_append_left (by rw [hM.out];exact hlt)];exact List.getElem?_eq_getElem _
   have hne:=hpre _ (List.getElem_mem (by rw [hM.out];exact hlt))
   obtain ⟨g,rfl,c1,c2⟩:=jJ6 (jEg HV.out HG.out) hp
   generalize pre[j]'(by rw [hM.out];exact hlt) = p at *
   obtain ⟨a,y⟩:=p
   have HA:=jAa (fun W (h : W.cell? ⟨bx,0,none⟩ = some (.string k)) => jY1 a k y hne bx W h)
   clear hp hne
   go_wp2_with (go_at_call 189;refine (HA.out _ hbw).mono ?_;rintro e w1 ⟨rfl,hg1⟩)
   go_roundw
   case rel => exact ⟨j + 1,hlt,by go_num,jAa (jAt HG.out hg1)⟩
   case measure => simp [intOf];omega
  ·obtain rfl : j = m:=by omega
   have hp : (pre ++ (k,x) :: post)[j]? = some (k,x):=by rw [List.getElem?_append_right (by rw [hM.out];exact Nat.le_refl _),hM.out];simp
   obtain ⟨g,rfl,c1,c2⟩:=jJ6 (jEg HV.out HG.out) hp
   have HA:=jAa (fun W (h : W.cell? ⟨bx,0,none⟩ = some (.string k)) => kF0 k x bx W h)
   clear hp hlt
   go_wp2_with (go_at_call 189;refine (HA.out _ hbw).mono ?_;rintro e w1 ⟨rfl,hg1⟩)
   go_ret
   exact ⟨rfl,jAt HG.out hg1⟩
theorem kLg {w : World} {v : Value} {l : List Kv} {k : ByteArray} (hv : jKe w v l) (hn : l.length ≤ 100000) (hpre : ∀ p ∈ l,p.1 ≠ k) (bx : Nat) (hb : w.cell? ⟨bx,0,none⟩ = some (.string k)) :
  Calls Tryz.prog 188 #[v,.func (.func 189) #[] #[.pointer (some ⟨bx,0,none⟩)]] w fun e w' => e = .returned (.int .i64 (-1)) ∧ w.grownBy w' none:=by
 obtain ⟨pa,cap,rfl⟩:=jAr hv
 obtain ⟨n,hln⟩ : ∃ n,l.length = n:=⟨_,rfl⟩
 unfold jKe at hv
 rw [hln] at hn hv ⊢
 have HV : Hid (w.ownsRow 0 184 2 (.slice pa n cap) n (enV l)):=hv
 have hN:=jAa hln
 clear hv hln
 go_enter Tryz.func188,Tryz.ntmps188
 go_wp2
 go_loopw [5,8] (fun _ i wr => ∃ j : Nat,j ≤ n ∧ i = .int .i64 j ∧ Hid (w.grownBy wr none)) (fun _ i _ => n - (intOf i).toNat)
 case atStart => exact ⟨0,Nat.zero_le _,rfl,jDg _ _⟩
 case round =>
  obtain ⟨j,hj,rfl,HG⟩:=hrel
  have hbw:=jDb HG.out hb
  by_cases hlt : j < n
  ·have hji : (j : Int) < (n : Int):=by omega
   have hp : l[j]? = some (l[j]'(by rw [hN.out];exact hlt)):=List.getElem?_eq_getElem _
   have hne:=hpre _ (List.getElem_mem (by rw [hN.out];exact hlt))
   obtain ⟨g,rfl,c1,c2⟩:=jJ6 (jEg HV.out HG.out) hp
   generalize l[j]'(by rw [hN.out];exact hlt) = p at *
   obtain ⟨a,y⟩:=p
   have HA:=jAa (fun W (h : W.cell? ⟨bx,0,none⟩ = some (.string k)) => jY1 a k y hne bx W h)
   clear hp hne
   go_wp2_with (go_at_call 189;refine (HA.out _ hbw).mono ?_;rintro e w1 ⟨rfl,hg1⟩)
   go_roundw
   case rel => exact ⟨j + 1,hlt,by go_num,jAa (jAt HG.out hg1)⟩
   case measure => simp [intOf];omega
  ·have hji : ¬ (j : Int) < (n : Int):=by omega
   clear hlt
   go_wp2
   go_ret
   exact ⟨rfl,HG.out⟩
theorem jRk {w : World} {v : Value} {pre post : List Kv} {k : ByteArray} {x : Int} (hv : jKe w v (pre ++ (k,x) :: post)) (hn : (pre ++ (k,x) :: post).length ≤ 100000) (hpre : ∀ p ∈ pre,p.1 ≠ k) (g i : Nat) (hc : w.cell? ⟨g,i,none⟩ = some v) :
  Calls Tryz.prog 157 #[.pointer (some ⟨g,i,none⟩),.string k] w fun e w' => e = .returned (.int .i64 (pre.length : Nat)) ∧ w.grownBy w' none:=by
 have hg:=World.grownBy_alloc w (.cells #[.string k] 9) none
 have hc2:=jDb hg hc
 have HA:=jAa (kNl (jEg hv hg) hn hpre w.heap.size (by simp))
 obtain ⟨pa,cap,rfl⟩:=jAr hv
 clear hv hn hpre
 generalize (pre ++ (k,x) :: post).length = n at *
 go_enter Tryz.func157,Tryz.ntmps157
 go_wp2_with (go_at_call 188;refine HA.out.mono ?_;rintro e w1 ⟨rfl,hg1⟩)
 go_ret
 exact ⟨rfl,jAt hg hg1⟩
theorem jOy {w : World} {v : Value} {l : List Kv} {k : ByteArray} (hv : jKe w v l) (hn : l.length ≤ 100000) (hpre : ∀ p ∈ l,p.1 ≠ k) (g i : Nat) (hc : w.cell? ⟨g,i,none⟩ = some v) :
  Calls Tryz.prog 157 #[.pointer (some ⟨g,i,none⟩),.string k] w fun e w' => e = .returned (.int .i64 (-1)) ∧ w.grownBy w' none:=by
 have hg:=World.grownBy_alloc w (.cells #[.string k] 9) none
 have hc2:=jDb hg hc
 have HA:=jAa (kLg (jEg hv hg) hn hpre w.heap.size (by simp))
 obtain ⟨pa,cap,rfl⟩:=jAr hv
 clear hv hn
 go_enter Tryz.func157,Tryz.ntmps157
 go_wp2_with (go_at_call 188;refine HA.out.mono ?_;rintro e w1 ⟨rfl,hg1⟩)
 go_ret
 exact ⟨rfl,jAt hg hg1⟩
end
section
open Go.RowKit
theorem kK2 {k : ByteArray} {x : Int} {pre post : List Kv} (h : ∀ p ∈ pre,p.1 ≠ k) : jEh k (pre ++ (k,x) :: post) = some x:=by
 unfold jEh
 rw [List.find?_append,List.find?_eq_none.2 fun p hp => by simpa using h p hp]
 simp
theorem kF5 (pre : List Kv) (p : Kv) (post : List Kv) : (pre ++ p :: post)[pre.length]? = some p:=by simp
theorem kL1 {w : World} {v : Value} {l : List Kv} (hv : jKe w v l) (hn : l.length ≤ 100000) (k : ByteArray) (g i : Nat) (hc : w.cell? ⟨g,i,none⟩ = some v) :
  Calls Tryz.prog 122 #[.pointer (some ⟨g,i,none⟩),.string k] w fun e w' => e = .returned (.tuple #[jJm (jEh k l),.bool (jLh k l)]) ∧ w.grownBy w' none:=by
 rcases jH6 k l with ⟨pre,x,post,rfl,hpre⟩ | hno
 ·have HF:=jAa (jRk hv hn hpre g i hc)
  have HR : Hid (Value.tuple #[jJm (jEh k (pre ++ (k,x) :: post)),.bool (jLh k (pre ++ (k,x) :: post))] = .tuple #[.pointer (some ⟨Int.toNat x,0,none⟩),.bool true]):=by
   show _ = _
   rw [kK2 hpre,jJ5]
   rfl
  rw [HR.out]
  have hmid:=kF5 pre (k,x) post
  have hmn : pre.length < (pre ++ (k,x) :: post).length:=by simp
  have HV:=jAa hv
  obtain ⟨pa,cap,rfl⟩:=jAr hv
  unfold jKe at HV
  clear hv hpre HR
  generalize pre ++ (k,x) :: post = l at *
  generalize pre.length = m at *
  generalize l.length = n at *
  have hmi : (m : Int) < (n : Int):=by omega
  have hm0 : ¬ (m : Int) < 0:=by omega
  go_enter Tryz.func122,Tryz.ntmps122
  go_wp2_with (go_at_call 157;refine HF.out.mono ?_;rintro e w1 ⟨rfl,hg1⟩;have hc1:=jDb hg1 hc;obtain ⟨ga,rfl,d1,d2⟩:=jJ6 (jEg HV.out hg1) hmid)
  go_ret2
  exact ⟨rfl,hg1⟩
 ·have HF:=jAa (jOy hv hn hno g i hc)
  have HR : Hid (Value.tuple #[jJm (jEh k l),.bool (jLh k l)] = .tuple #[.pointer none,.bool false]):=by
   show _ = _
   rw [jRs hno,jI8 hno]
   rfl
  rw [HR.out]
  clear hv hno HR
  go_enter Tryz.func122,Tryz.ntmps122
  go_wp2_with (go_at_call 157;refine HF.out.mono ?_;rintro e w1 ⟨rfl,hg1⟩)
  go_ret2
  exact ⟨rfl,hg1⟩
theorem kNi (pre : List Kv) (k : ByteArray) (x y : Int) (post : List Kv) : (enV (pre ++ (k,x) :: post)).set (pre.length * 2 + 1) (.pointer (some ⟨Int.toNat y,0,none⟩)) = enV (pre ++ (k,y) :: post):=by
 have e : ∀ z : Int,enV (pre ++ (k,z) :: post) = enV pre ++ (.string k :: .pointer (some ⟨Int.toNat z,0,none⟩) :: enV post):=fun z => by rw [jJ8];rfl
 rw [e,e,List.set_append_right _ _ (by rw [jGa];omega),jGa,show pre.length * 2 + 1 - pre.length * 2 = 1 by omega]
 rfl
section
variable {F : Nat → Prop} {w0 w w' w1 : World} {R : jAd} {g n cap i : Nat} {f : Nat → Value} {l : List Kv}
theorem jAb.bkSet {B : jAd} (H : jAb F w0 w ((arP (.slice (some ⟨g,0,none⟩) n cap) n f).and (B.and R))) (u : Value) : jAb F w0 (w.setCell ⟨g,i,none⟩ u) ((arP (.slice (some ⟨g,0,none⟩) n cap) n (jDm f i u)).and (B.and R)):=H.arSet u
end
theorem kI5 {F : Nat → Prop} {w0 w : World} {R : jAd} {g n cap i : Nat} {f : Nat → Value} {l : List Kv} (H : jAb F w0 w ((arP (.slice (some ⟨g,0,none⟩) n cap) n f).and ((enP (f i) l).and R))) (hi : i < n) (hn : l.length ≤ 50000) (k : ByteArray) (y : Int) :
  Calls Tryz.prog 214 #[.pointer (some ⟨g,i,none⟩),.string k,.pointer (some ⟨Int.toNat y,0,none⟩)] w fun e w' => e = .returned (.bool (!jLh k l)) ∧ ∃ u,jAb F w0 w' ((arP (.slice (some ⟨g,0,none⟩) n cap) n (jDm f i u)).and ((enP u (jNn k y l)).and R)):=by
 obtain ⟨hc,-⟩:=jGc H.q.1 hi
 have hv : jKe w (f i) l:=H.q.2.1.1
 rcases jH6 k l with ⟨pre,x,post,rfl,hpre⟩ | hno
 ·have HF:=jAa (jRk hv (by omega) hpre g i hc)
  rw [jJ5,jN8 hpre]
  have hmid:=kF5 pre (k,x) post
  have hmn : pre.length < (pre ++ (k,x) :: post).length:=by simp
  have HS:=jAa (kNi pre k x y post)
  have HL : Hid ((pre ++ (k,x) :: post).length = (pre ++ (k,y) :: post).length):=by show _ = _;simp
  have HV:=jAa hv
  obtain ⟨v,hfv⟩ : ∃ v,f i = v:=⟨_,rfl⟩
  rw [hfv] at hv hc HV H
  have HU : Hid (jDm f i v = f):=by show _ = _;rw [← hfv];exact jHk f i
  obtain ⟨pa,c2,rfl⟩:=jAr hv
  unfold enP at H
  have HH:=jAa H
  unfold jKe at HV
  clear hv hpre hfv H hn
  generalize pre ++ (k,x) :: post = l at *
  generalize pre ++ (k,y) :: post = l' at *
  generalize pre.length = m at *
  obtain ⟨q,hq⟩ : ∃ q,l.length = q:=⟨_,rfl⟩
  rw [hq] at HH hc HU
  rw [hq] at hmn HV HL
  have hmi : (m : Int) < (q : Int):=by omega
  have hm0 : ¬ (m : Int) < 0:=by omega
  go_enter Tryz.func214,Tryz.ntmps214
  go_wp2_with (go_at_call 157;refine HF.out.mono ?_;rintro e w1 ⟨rfl,hg1⟩;have hc1:=jDb hg1 hc;obtain ⟨ga,rfl,d1,d2⟩:=jJ6 (jEg HV.out hg1) hmid;have hfz:=World.ownsRow.frozenAt (jEg HV.out hg1) (m * 2 + 1))
  go_ret
  refine ⟨rfl,.slice (some ⟨ga,0,none⟩) q c2,?_⟩
  have H1:=HH.out.step hg1
  obtain ⟨h1,h2⟩:=World.ownsRow.stored (jEg HV.out hg1) (m * 2 + 1) (.pointer (some ⟨Int.toNat y,0,none⟩))
  rw [HS.out] at h1
  have H2:=(H1.rot.app0 (v':=.slice (some ⟨ga,0,none⟩) q c2) (m:=q) h1 h2 (.inl rfl)).rot
  unfold enP
  rw [HU.out,← HL.out]
  exact H2
 ·have HF:=jAa (jOy hv (by omega) hno g i hc)
  rw [jI8 hno,jMy hno]
  have HH:=jAa H
  obtain ⟨i0,hi0,hz0,hz1,hz2⟩:=info_parts jJe
  have he : (enV (l ++ [(k,y)])) = enV l ++ [.string k,.pointer (some ⟨Int.toNat y,0,none⟩)]:=by rw [jJ8,kBe]
  have HE:=jAa he
  have hlen : (l ++ [(k,y)]).length = l.length + 1:=by simp
  have HL:=jAa hlen
  clear hv hno H he hlen
  obtain ⟨q,hq⟩ : ∃ q,l.length = q:=⟨_,rfl⟩
  rw [hq] at hn
  go_enter Tryz.func214,Tryz.ntmps214
  go_wp2_with (first
   | (go_at_call 157;refine HF.out.mono ?_;rintro e w1 ⟨rfl,hg1⟩;have hc1:=jDb hg1 hc;have H1:=jAa (HH.out.step hg1);have hrow : w1.ownsRow 0 184 2 (f i) l.length (enV l):=H1.out.q.2.1.1;rw [hq] at hrow)
   | (at_builtin;refine wpList_append_own_at _ rfl _ _ 181 rfl 0 184 i0 (.agg #[.string ⟨#[]⟩,.pointer none]) 2 24 Tryz.underlying181 hi0 hz0 hz1 hz2 rfl (by decide) _ _ _ rfl (hrow.alloc _) ⟨w1.heap.size,0,none⟩ 1 1 [.string k,.pointer (some ⟨Int.toNat y,0,none⟩)] rfl rfl (cell_two_new _ _ _ _) (by simp [Value.oneCell']) (by unfold maxLen;omega) (by omega) (Nat.zero_le _) ?_;intro v' w2 hown' hgrow _ hat;obtain ⟨g',cap',rfl⟩:=ownsRow_succ hown';rw [← HE.out] at hown';have H2:=jAa ((H1.out.rot.app hown' hgrow hat).rot);obtain ⟨d1,d2⟩:=jGc H2.out.q.1 hi;clear hrow hown' hgrow hat))
  go_ret
  refine ⟨rfl,.slice (some ⟨g',0,none⟩) (q + 1) cap',?_⟩
  unfold enP
  rw [HL.out,hq]
  exact H2.out.bkSet (i:=i) (.slice (some ⟨g',0,none⟩) (q + 1) cap')
end
section
open Go.RowKit
theorem jSr {P : Program} (w : World) {ops : Array Oper} {o : Oper} {a : Act} {K : Act → World → Prop} {Q : Exit → Act → World → Prop} {E : Prop} (d : Tmp) (hd : o.dst = some d) (hgd : o.guard = none) (s x : Operand) (t tn : TypeId)
  (ho : o.op = .call { callee:=.builtin .append,args:=#[s,x],argTypes:=#[t,tn] }) (vs vx : Value) (hs : a.eval s = vs) (hx : a.eval x = vx) (v' : Value) (w' : World) (ty : TypeId) (hty : o.type = ty) (hr : (Builtin.append_ #[t,tn] ty #[vs,vx]).run P w = .ok v' w')
  (h : K (a.put (some d) v') w') : if Region.wanted o (yielded ops a.tmps) = true then Oper.wp P o a w K Q else E:=by
 have hw : Region.wanted o (yielded ops a.tmps) = true:=by simp [Region.wanted,hgd]
 rw [if_pos hw,← hd] at *
 exact Lib.wp_append_run w s x t tn ho vs vx hs hx v' w' (hty ▸ hr) h
def zeV : List Value:=[.string ⟨#[]⟩,.pointer none]
theorem kAm {w : World} {g j c : Nat} {cur : Array Value} (hg : w.heap[g]? = some (.cells cur 184 (0,0))) (hj : j * 2 + 2 ≤ cur.size) (ty : TypeId) :
  (Builtin.clear_ #[181] ty #[.slice (some ⟨g,j * 2,none⟩) 1 c]).run Tryz.prog w = .ok (.tuple #[]) (w.setRow g (cur.toList.take (j * 2) ++ zeV ++ cur.toList.drop (j * 2 + 2)).toArray):=by
 have hst:=run_storeCells_at Tryz.prog g (j * 2) 184 zeV 0 _ w hg (by simpa [zeV] using hj) (by simp [zeV,Value.oneCell'])
 have hst2 : (storeCells ⟨g,j * 2,none⟩ zeV 0).run Tryz.prog w = .ok () (w.setRow g (cur.toList.take (j * 2) ++ zeV ++ cur.toList.drop (j * 2 + 2)).toArray):=hst
 have hz : (zeroValue 184).run Tryz.prog w = .ok (.agg #[.string ⟨#[]⟩,.pointer none]) w:=by kernel_rfl
 have hc : (Builtin.zeroCells (Value.agg #[Value.string ⟨#[]⟩,.pointer none]).cells 1).toList = zeV:=by kernel_rfl
 simp [Builtin.clear_,run_underlying Tryz.underlying181,hz,hc,hst2,Result.andThen]
theorem jXv {w : World} {g n cap : Nat} {xs : List Value} (h : w.ownsRow 0 184 2 (.slice (some ⟨g,0,none⟩) n cap) n xs) (hn : n < cap) (c : Nat) :
  ∃ w',(∀ ty,(Builtin.clear_ #[181] ty #[.slice (some ⟨g,n * 2,none⟩) 1 c]).run Tryz.prog w = .ok (.tuple #[]) w') ∧ w'.ownsRow 0 184 2 (.slice (some ⟨g,0,none⟩) n cap) n xs ∧ w.grownBy w' (some g):=by
 have hl:=h.1
 rcases h.2 with ⟨h',_⟩ | ⟨g',cap',cur,h',hb,hg,hnc,hcm,hcs,htake⟩
 ·simp at h'
 ·simp only [Value.slice.injEq,Option.some.injEq,Addr.mk.injEq,and_true,true_and] at h'
  obtain ⟨rfl,rfl⟩:=h'
  have hj : n * 2 + 2 ≤ cur.size:=by omega
  refine ⟨_,fun ty => kAm hg hj ty,⟨hl,.inr ⟨g,cap,_,rfl,hb,setRow_heap w g _ _ _ _ hg,hnc,hcm,?_,?_⟩⟩,⟨rfl,rfl,rfl,by simp [World.setRow],fun k _ hk => setRow_other w g k _ (fun e => hk (by rw [e]))⟩⟩
  ·simp [zeV]
   omega
  ·simp only [List.append_assoc]
   rw [List.take_append_of_le_length (by simp;omega),List.take_take,Nat.min_self]
   exact htake
section
variable {g m n t q cap : Nat}
theorem kLe (hq : m + 1 + q = n) (hc : n ≤ cap) : ∃ a : Addr,(a = ⟨g,(m + 1) * 2,none⟩ ∨ q = 0) ∧ ∀ w : World,(Instr.sliceAt 181 (.slice (some ⟨g,0,none⟩) n cap) (some (.int .i64 ((m : Int) + 1))) none none).run Tryz.prog w = .ok (.slice (some a) q (cap - (m + 1))) w:=by
 have h1 : ((m : Int) + 1) ≤ (n : Int):=by omega
 have h2 : n - (m + 1) = q:=by omega
 have h3 : ((m : Int) + 1).toNat = m + 1:=by omega
 have h4 : (0 : Int) ≤ (m : Int) + 1:=by omega
 by_cases e : cap = m + 1
 ·refine ⟨⟨g,0,none⟩,.inr (by omega),fun w => ?_⟩
  subst e
  go_simp
 ·refine ⟨⟨g,(m + 1) * 2,none⟩,.inl rfl,fun w => ?_⟩
  go_simp
theorem kFg (hq : m + 1 ≤ n) (hc : n ≤ cap) : ∃ u,∀ w : World,(Instr.sliceAt 181 (.slice (some ⟨g,0,none⟩) n cap) (some (.int .i64 (m : Int))) (some (.int .i64 ((m : Int) + 1))) (some (.int .i64 (n : Int)))).run Tryz.prog w = .ok u w:=by
 have h1 : (n : Int) ≤ (cap : Int):=by omega
 have h3 : ((m : Int) + 1).toNat = m + 1:=by omega
 have h4 : (m : Int) + 1 ≤ (n : Int):=by omega
 have h5 : (0 : Int) ≤ (m : Int) + 1:=by omega
 have h6 : ¬ n = m:=by omega
 refine ⟨.slice (some ⟨g,m * 2,none⟩) 1 (n - m),fun w => ?_⟩
 go_simp
theorem kG7 (hc : m ≤ cap) : ∀ w : World,(Instr.sliceAt 181 (.slice (some ⟨g,0,none⟩) n cap) none (some (.int .i64 (m : Int))) none).run Tryz.prog w = .ok (.slice (some ⟨g,0,none⟩) m cap) w:=fun w => by
 have hki : (m : Int) ≤ (cap : Int):=by omega
 go_simp
theorem kLj (ht : t + 1 = n) (hc : n ≤ cap) : ∀ w : World,(Instr.sliceAt 181 (.slice (some ⟨g,0,none⟩) t cap) (some (.int .i64 (t : Int))) (some (.int .i64 (n : Int))) none).run Tryz.prog w = .ok (.slice (some ⟨g,t * 2,none⟩) 1 (cap - t)) w:=fun w => by
 have hki : (n : Int) ≤ (cap : Int):=by omega
 have h1 : (t : Int) ≤ (n : Int):=by omega
 have h2 : n - t = 1:=by omega
 have h3 : ¬ cap = t:=by omega
 go_simp
end
theorem kMv {F : Nat → Prop} {w0 w : World} {R : jAd} {v : Value} {pre post : List Kv} {p : Kv} (H : jAb F w0 w ((enP v (pre ++ p :: post)).and R)) :
  Calls Tryz.prog 203 #[v,.int .i64 (pre.length : Nat),.int .i64 ((pre.length : Nat) + 1)] w fun e w' => ∃ u,e = .returned u ∧ (∃ a b c,u = .slice a b c) ∧ jAb F w0 w' ((enP u (pre ++ post)).and R):=by
 obtain ⟨g,cap,rfl⟩:=jCk H.q.1 (by simp;omega)
 obtain ⟨hcap,hmax⟩:=jGe H.q.1
 have hmx : cap ≤ 9223372036854775807:=hmax
 obtain ⟨i0,hi0,hz0,hz1,hz2⟩:=info_parts jJe
 obtain ⟨m,hm⟩ : ∃ m,pre.length = m:=⟨_,rfl⟩
 obtain ⟨q,hq⟩ : ∃ q,post.length = q:=⟨_,rfl⟩
 obtain ⟨n,hlen⟩ : ∃ n,(pre ++ p :: post).length = n:=⟨_,rfl⟩
 obtain ⟨t,hlen2⟩ : ∃ t,(pre ++ post).length = t:=⟨_,rfl⟩
 have hnm : m + 1 + q = n:=by rw [← hlen];simp;omega
 have htm : m + q = t:=by rw [← hlen2];simp;omega
 have hrow : w.ownsRow 0 184 2 (.slice (some ⟨g,0,none⟩) n cap) n (enV (pre ++ p :: post)):=by rw [← hlen];exact H.q.1
 unfold enP at H ⊢
 rw [hlen] at H hcap ⊢
 rw [hlen2,hm]
 have hfront : w.ownsRow 0 184 2 (.slice (some ⟨g,0,none⟩) m cap) m (enV pre):=by
  have:=jYk hrow (k:=m) (by omega)
  rwa [kLv,List.take_left' hm] at this
 have hback : ∀ j u,(enV post)[j]? = some u → w.cell? ⟨g,(m + 1) * 2 + j,none⟩ = some u:=by
  intro j u hu
  have hj:=(List.getElem?_eq_some_iff.1 hu).1
  rw [jGa,hq] at hj
  rw [hrow.cellAt _ (by omega)]
  have e : (enV (pre ++ p :: post)).drop ((m + 1) * 2) = enV post:=by
   rw [kLk _ _ (by rw [hlen];omega),show pre ++ p :: post = (pre ++ [p]) ++ post by simp,List.drop_left' (by simp;omega)]
  rw [← e,List.getElem?_drop] at hu
  exact hu
 obtain ⟨a,ha,hsl⟩:=kLe (g:=g) hnm hcap
 obtain ⟨u3,hsl3⟩:=kFg (g:=g) (m:=m) (n:=n) (cap:=cap) (by omega) hcap
 have hsl1:=kG7 (g:=g) (m:=m) (n:=n) (cap:=cap) (by omega)
 have hsl4:=kLj (g:=g) (t:=t) (n:=n) (cap:=cap) (by omega) hcap
 have hnews : ∀ j u,(enV post)[j]? = some u → w.drew.cell? (a.add j) = some u:=by
  intro j u hu
  rcases ha with rfl | h0
  ·have:=hback j u hu
   rw [Addr.add_lit]
   exact this
  ·have : post = []:=List.length_eq_zero_iff.1 (hq.trans h0)
   subst this
   simp [enV] at hu
 obtain ⟨w1,hr1,ho1,hg1⟩:=run_append_fits (P:=Tryz.prog) w.drew 0 181 181 184 i0 2 Tryz.underlying181 hi0 hz1 g m cap (enV pre) hfront.drew a q (cap - (m + 1)) (enV post) (by rw [jGa,hq]) hnews (jWy post) (by omega)
 rw [htm] at hr1 ho1
 rw [← jJ8] at ho1
 obtain ⟨w2,hr2,ho2,hg2⟩:=jXv ho1 (by omega) (cap - t)
 have HH:=jAa ((H.drew.app0 ho1 hg1 (.inl rfl)).app0 ho2 hg2 (.inl rfl))
 have hR1:=jAa hr1
 have hne : ((m : Int) == (m : Int) + 1) = false:=beq_eq_false_iff_ne.2 (by omega)
 clear H hrow hfront hback hnews ha hr1 ho1 hg1 ho2 hg2 hm hq hlen hlen2
 go_enter Tryz.func203,Tryz.ntmps203
 go_upto_region 5 with fail
 go_region_held_law (fun _ => True) (trivial) ((refine jSr _ 26 rfl rfl _ _ 181 181 rfl _ _ rfl rfl _ _ 181 rfl hR1.out ?_))
 go_wp2
 go_ret
 exact ⟨_,rfl,⟨_,_,_,rfl⟩,HH.out⟩
theorem kEq {F : Nat → Prop} {w0 w : World} {R : jAd} {g n cap i : Nat} {f : Nat → Value} {l : List Kv} (H : jAb F w0 w ((arP (.slice (some ⟨g,0,none⟩) n cap) n f).and ((enP (f i) l).and R))) (hi : i < n) (hn : l.length ≤ 50000) (k : ByteArray) :
  Calls Tryz.prog 169 #[.pointer (some ⟨g,i,none⟩),.string k] w fun e w' => e = .returned (.bool (jLh k l)) ∧ ∃ u,jAb F w0 w' ((arP (.slice (some ⟨g,0,none⟩) n cap) n (jDm f i u)).and ((enP u (jN0 k l)).and R)):=by
 obtain ⟨hc,-⟩:=jGc H.q.1 hi
 have hv : jKe w (f i) l:=H.q.2.1.1
 rcases jH6 k l with ⟨pre,x,post,rfl,hpre⟩ | hno
 ·have HF:=jAa (jRk hv (by omega) hpre g i hc)
  rw [jJ5,jN1 hpre]
  have HH:=jAa H
  have hmn : pre.length < (pre ++ (k,x) :: post).length:=by simp
  have hml : pre.length ≤ 50000:=by omega
  clear hv hpre H
  have hm0 : ¬ (pre.length : Int) < 0:=by omega
  have HD:=jAa (fun W (L : jAb F w0 W ((enP (f i) (pre ++ (k,x) :: post)).and ((arP (.slice (some ⟨g,0,none⟩) n cap) n f).and R))) => kMv L)
  clear hn hmn
  generalize pre ++ (k,x) :: post = l at *
  generalize pre ++ post = l' at *
  generalize pre.length = m at *
  have e1 : wrap64 ((m : Int) + 1) = (m : Int) + 1:=by unfold wrap64;omega
  go_enter Tryz.func169,Tryz.ntmps169
  go_wp2_with (first
   | (go_at_call 157;refine HF.out.mono ?_;rintro e w1 ⟨rfl,hg1⟩;have hc1:=jDb hg1 hc;have H1:=jAa (HH.out.step hg1))
   | (go_at_call 203;refine (HD.out _ H1.out.rot).mono ?_;rintro e w2 ⟨u,rfl,⟨ua,ub,uc,rfl⟩,H2⟩;replace H2:=jAa H2.rot;obtain ⟨d1,d2⟩:=jGc H2.out.q.1 hi))
  go_ret
  exact ⟨rfl,_,H2.out.bkSet (i:=i) (.slice ua ub uc)⟩
 ·have HF:=jAa (jOy hv (by omega) hno g i hc)
  rw [jI8 hno,jMk hno]
  have HH:=jAa H
  clear hv hno H
  go_enter Tryz.func169,Tryz.ntmps169
  go_wp2_with (go_at_call 157;refine HF.out.mono ?_;rintro e w1 ⟨rfl,hg1⟩)
  go_ret
  refine ⟨rfl,f i,?_⟩
  rw [jHk]
  exact HH.out.step hg1
end
section
open Go.RowKit
theorem jRv (sd n : Nat) (k : ByteArray) (hn : 0 < n) : jFi (ofN sd k.data.toList) (n : Int) = ((plN sd n k : Nat) : Int):=by
 unfold jFi plN
 rw [if_neg (by omega)]
 rfl
theorem jIo {w : World} {b : Nat} {t : TypeId} {x y z u : Value} (h : w.heap[b]? = some (.cells #[x,y,z,u] t (0,0))) : w.cell? ⟨b,0,none⟩ = some x ∧ w.cell? ⟨b,1,none⟩ = some y ∧ w.cell? ⟨b,2,none⟩ = some z ∧ w.cell? ⟨b,3,none⟩ = some u:=by
 simp [World.cell?,h]
theorem kGp {w : World} {b sd N left gE cB cE : Nat} {aB : Option Addr} {many : Int} (hw : w.heap[b]? = some (.cells #[.int .u64 sd,.int .i64 many,.slice aB N cB,.slice (some ⟨gE,0,none⟩) left cE] 98 (0,0))) (hsd : sd < 18446744073709551616) (hN : 8 ≤ N) (hN2 : N ≤ 20000) (k : ByteArray) (hk : k.size ≤ 140737488351232) (hp : plN sd (N / 2) k < left) :
  Calls Tryz.prog 121 #[.pointer (some ⟨b,0,none⟩),.string k] w fun e w' => e = .returned (.pointer (some ⟨gE,plN sd (N / 2) k,none⟩)) ∧ w.grownBy w' none:=by
 obtain ⟨c0,-,c2,c3⟩:=jIo hw
 obtain ⟨h,hh⟩ : ∃ h,ofN sd k.data.toList = h:=⟨_,rfl⟩
 have hlt : h < 18446744073709551616:=by rw [← hh];exact jP8 _ _
 have HB:=jAa (jRv sd (N / 2) k (by omega))
 rw [hh] at HB
 have HO:=jAa (fun W => jW0 sd hsd k (by omega) W)
 rw [hh] at HO
 have hpN : plN sd (N / 2) k < N / 2:=Nat.mod_lt _ (by omega)
 obtain ⟨p,hpp⟩ : ∃ p,plN sd (N / 2) k = p:=⟨_,rfl⟩
 rw [hpp] at hp HB hpN ⊢
 have hpi : (p : Int) < (left : Int):=by omega
 have HL:=jAa (fun W => jKs h hlt ((N / 2 : Nat) : Int) (by omega) (by omega) W)
 rw [HB.out] at HL
 clear hw hh hpp HB
 go_enter Tryz.func121,Tryz.ntmps121
 go_wp2_with (first
  | (go_at_call 155;refine (HO.out _).mono ?_;rintro e w1 ⟨rfl,rfl⟩)
  | (go_at_call 156;refine (HL.out _).mono ?_;rintro e w1 ⟨rfl,rfl⟩))
 go_ret
 exact ⟨rfl,jDg _ _⟩
theorem jUo {w : World} {b sd N left gB cB cE : Nat} {aE : Option Addr} {many : Int} (hw : w.heap[b]? = some (.cells #[.int .u64 sd,.int .i64 many,.slice (some ⟨gB,0,none⟩) N cB,.slice aE left cE] 98 (0,0))) (hsd : sd < 18446744073709551616) (hN : 8 ≤ N) (hN2 : N ≤ 20000) (k : ByteArray) (hk : k.size ≤ 140737488351232) (hp : left ≤ plN sd (N / 2) k) :
  Calls Tryz.prog 121 #[.pointer (some ⟨b,0,none⟩),.string k] w fun e w' => e = .returned (.pointer (some ⟨gB,plN sd N k,none⟩)) ∧ w.grownBy w' none:=by
 obtain ⟨c0,-,c2,c3⟩:=jIo hw
 have c2' : w.drew.cell? ⟨b,2,none⟩ = some (.slice (some ⟨gB,0,none⟩) N cB):=c2
 obtain ⟨h,hh⟩ : ∃ h,ofN sd k.data.toList = h:=⟨_,rfl⟩
 have hlt : h < 18446744073709551616:=by rw [← hh];exact jP8 _ _
 have HB:=jAa (jRv sd (N / 2) k (by omega))
 have HB2:=jAa (jRv sd N k (by omega))
 rw [hh] at HB HB2
 have HO:=jAa (fun W => jW0 sd hsd k (by omega) W)
 rw [hh] at HO
 have hpN : plN sd (N / 2) k < N / 2:=Nat.mod_lt _ (by omega)
 have hqN : plN sd N k < N:=Nat.mod_lt _ (by omega)
 obtain ⟨p,hpp⟩ : ∃ p,plN sd (N / 2) k = p:=⟨_,rfl⟩
 obtain ⟨q,hqq⟩ : ∃ q,plN sd N k = q:=⟨_,rfl⟩
 rw [hpp] at hp HB hpN
 rw [hqq] at hqN HB2 ⊢
 have hpi : ¬ (p : Int) < (left : Int):=by omega
 have hqi : (q : Int) < (N : Int):=by omega
 have hqd : decide (q < N) = true:=decide_eq_true hqN
 have HL:=jAa (fun W => jKs h hlt ((N / 2 : Nat) : Int) (by omega) (by omega) W)
 have HL2:=jAa (fun W => jKs h hlt (N : Int) (by omega) (by omega) W)
 rw [HB.out] at HL
 rw [HB2.out] at HL2
 clear hw hh hpp hqq HB HB2
 go_enter Tryz.func121,Tryz.ntmps121
 go_upto_region 5 with (first
  | (go_at_call 155;refine (HO.out _).mono ?_;rintro e w1 ⟨rfl,rfl⟩)
  | (go_at_call 156;refine (HL.out _).mono ?_;rintro e w1 ⟨rfl,rfl⟩))
 go_quiet ((go_at_call 156;refine Calls.quiet_of_same ((HL2.out _).mono fun e w' h => ⟨h.1,h.2.symm⟩)))
 go_wp2
 go_ret
 exact ⟨rfl,⟨rfl,rfl,rfl,Nat.le_refl _,fun _ _ _ => rfl⟩⟩
end
section
open Go.RowKit
abbrev headT (b sd many : Nat) (vB vE : Value) : jAd:=jAn b (.cells #[.int .u64 sd,.int .i64 (many : Nat),vB,vE] 98)
def enF (f : Nat → Value) (B : Nat → List Kv) (i : Nat) : jAd:=enP (f i) (B i)
def jRb (b sd many : Nat) (vB vE : Value) (N left : Nat) (bv ev : Nat → Value) (B E : Nat → List Kv) : jAd :=
 (headT b sd many vB vE).and ((arP vB N bv).and ((jD6 (· < N) (enF bv B)).and ((arP vE left ev).and ((jD6 (· < left) (enF ev E)).and jAd.emp))))
theorem toE_q {w : World} {A B C D E R : jAd} (h : (A.and (B.and (C.and (D.and (E.and R))))).q w) : (D.and (E.and (A.and (B.and (C.and R))))).q w:=by
 obtain ⟨hA,⟨hB,⟨hC,⟨hD,⟨hE,hR,hER⟩,hD2⟩,hC2⟩,hB2⟩,hA2⟩:=h
 refine ⟨hD,⟨hE,⟨hA,⟨hB,⟨hC,hR,?_⟩,?_⟩,?_⟩,?_⟩,?_⟩
 ·exact fun k h1 h2 => hC2 k h1 (.inr (.inr h2))
 ·rintro k h1 (h2 | h2)
  ·exact hB2 k h1 (.inl h2)
  ·exact hB2 k h1 (.inr (.inr (.inr h2)))
 ·rintro k h1 (h2 | h2 | h2)
  ·exact hA2 k h1 (.inl h2)
  ·exact hA2 k h1 (.inr (.inl h2))
  ·exact hA2 k h1 (.inr (.inr (.inr (.inr h2))))
 ·rintro k h1 (h2 | h2 | h2 | h2)
  ·exact hA2 k h2 (.inr (.inr (.inr (.inl h1))))
  ·exact hB2 k h2 (.inr (.inr (.inl h1)))
  ·exact hC2 k h2 (.inr (.inl h1))
  ·exact hER k h1 h2
 ·rintro k h1 (h2 | h2 | h2 | h2 | h2)
  ·exact hD2 k h1 (.inl h2)
  ·exact hA2 k h2 (.inr (.inr (.inl h1)))
  ·exact hB2 k h2 (.inr (.inl h1))
  ·exact hC2 k h2 (.inl h1)
  ·exact hD2 k h1 (.inr h2)
theorem kNe {w : World} {A B C D E R : jAd} (h : (D.and (E.and (A.and (B.and (C.and R))))).q w) : (A.and (B.and (C.and (D.and (E.and R))))).q w:=by
 obtain ⟨hD,⟨hE,⟨hA,⟨hB,⟨hC,hR,hCR⟩,hB2⟩,hA2⟩,hE2⟩,hD2⟩:=h
 refine ⟨hA,⟨hB,⟨hC,⟨hD,⟨hE,hR,?_⟩,?_⟩,?_⟩,?_⟩,?_⟩
 ·exact fun k h1 h2 => hE2 k h1 (.inr (.inr (.inr h2)))
 ·rintro k h1 (h2 | h2)
  ·exact hD2 k h1 (.inl h2)
  ·exact hD2 k h1 (.inr (.inr (.inr (.inr h2))))
 ·rintro k h1 (h2 | h2 | h2)
  ·exact hD2 k h2 (.inr (.inr (.inr (.inl h1))))
  ·exact hE2 k h2 (.inr (.inr (.inl h1)))
  ·exact hCR k h1 h2
 ·rintro k h1 (h2 | h2 | h2 | h2)
  ·exact hB2 k h1 (.inl h2)
  ·exact hD2 k h2 (.inr (.inr (.inl h1)))
  ·exact hE2 k h2 (.inr (.inl h1))
  ·exact hB2 k h1 (.inr h2)
 ·rintro k h1 (h2 | h2 | h2 | h2 | h2)
  ·exact hA2 k h1 (.inl h2)
  ·exact hA2 k h1 (.inr (.inl h2))
  ·exact hD2 k h2 (.inr (.inl h1))
  ·exact hE2 k h2 (.inl h1)
  ·exact hA2 k h1 (.inr (.inr h2))
section
variable {F : Nat → Prop} {w0 w : World} {A B C D E R : jAd}
theorem jAb.toE (H : jAb F w0 w (A.and (B.and (C.and (D.and (E.and R)))))) : jAb F w0 w (D.and (E.and (A.and (B.and (C.and R))))):=H.weak (fun h => toE_q h) fun k hk => by
 rcases hk with h | h | h | h | h | h
 ·exact .inr (.inr (.inr (.inl h)))
 ·exact .inr (.inr (.inr (.inr (.inl h))))
 ·exact .inl h
 ·exact .inr (.inl h)
 ·exact .inr (.inr (.inl h))
 ·exact .inr (.inr (.inr (.inr (.inr h))))
theorem jAb.fromE (H : jAb F w0 w (D.and (E.and (A.and (B.and (C.and R)))))) : jAb F w0 w (A.and (B.and (C.and (D.and (E.and R))))):=H.weak (fun h => kNe h) fun k hk => by
 rcases hk with h | h | h | h | h | h
 ·exact .inr (.inr (.inl h))
 ·exact .inr (.inr (.inr (.inl h)))
 ·exact .inr (.inr (.inr (.inr (.inl h))))
 ·exact .inl h
 ·exact .inr (.inl h)
 ·exact .inr (.inr (.inr (.inr (.inr h))))
end
section
variable {F : Nat → Prop} {w0 w : World} {R : jAd} {v u : Value} {n i : Nat} {f : Nat → Value} {B : Nat → List Kv} {L : List Kv}
theorem jAb.sel (H : jAb F w0 w ((arP v n f).and ((jD6 (· < n) (enF f B)).and R))) (hi : i < n) : jAb F w0 w ((arP v n f).and ((enP (f i) (B i)).and ((jD6 (fun j => j < n ∧ j ≠ i) (enF f B)).and R))):=(H.rot.pick i hi).rin.rot
theorem jAb.unsel (H : jAb F w0 w ((arP v n (jDm f i u)).and ((enP u L).and ((jD6 (fun j => j < n ∧ j ≠ i) (enF f B)).and R)))) : jAb F w0 w ((arP v n (jDm f i u)).and ((jD6 (· < n) (enF (jDm f i u) (jDm B i L))).and R)):=by
 have H1:=(H.rot.rin.back).rot
 have e : jJt (enF f B) i (enP u L) = enF (jDm f i u) (jDm B i L):=by
  funext j
  unfold jJt enF jDm
  by_cases h : j = i
  ·rw [if_pos h,if_pos h,if_pos h]
  ·rw [if_neg h,if_neg h,if_neg h]
 rw [e] at H1
 exact H1
end
structure TabL (F : Nat → Prop) (w0 w : World) (b : Nat) (st : Ts) (sd : Nat) (vB vE : Value) (bv ev : Nat → Value) (B E : Nat → List Kv) : Prop where
 law : jAb F w0 w (jRb b sd st.l.length vB vE st.buckets st.left bv ev B E)
 fit : jFa sd st.buckets st.left B E st.l
 seed : sd < 18446744073709551616
 short : ∀ p ∈ st.l,p.1.size ≤ 140737488351232
def Tab (F : Nat → Prop) (w0 w : World) (b : Nat) (st : Ts) : Prop:=∃ sd vB vE bv ev B E,TabL F w0 w b st sd vB vE bv ev B E
def Tb0 (w : World) (b : Nat) (own : Nat → Prop) (st : Ts) : Prop :=
 ∃ sd vB vE bv ev B E,own = (jRb b sd st.l.length vB vE st.buckets st.left bv ev B E).own ∧ (jRb b sd st.l.length vB vE st.buckets st.left bv ev B E).q w ∧ (∀ k,own k → k < w.heap.size) ∧ jFa sd st.buckets st.left B E st.l ∧ sd < 18446744073709551616 ∧ (∀ p ∈ st.l,p.1.size ≤ 140737488351232) ∧ jHi st
theorem Tb0.tab {w : World} {b : Nat} {own : Nat → Prop} {st : Ts} (h : Tb0 w b own st) : Tab own w w b st:=by
 obtain ⟨sd,vB,vE,bv,ev,B,E,rfl,h2,h3,h4,h5,h6,_⟩:=h
 exact ⟨sd,vB,vE,bv,ev,B,E,jAb.start h2 h3,h4,h5,h6⟩
theorem Tab.done {F : Nat → Prop} {w0 w : World} {b : Nat} {st : Ts} (h : Tab F w0 w b st) (G : jHi st) : ∃ own',Tb0 w b own' st ∧ Gr F w0 w ∧ jBm w0 F own':=by
 obtain ⟨sd,vB,vE,bv,ev,B,E,L,h4,h5,h6⟩:=h
 exact ⟨_,⟨sd,vB,vE,bv,ev,B,E,rfl,L.q,fun k hk => (L.lt k hk).1,h4,h5,h6,G⟩,L.gr,L.grew⟩
theorem Tab.step {F : Nat → Prop} {w0 w w' : World} {b : Nat} {st : Ts} (h : Tab F w0 w b st) (hg : w.grownBy w' none) : Tab F w0 w' b st:=by
 obtain ⟨sd,vB,vE,bv,ev,B,E,L,h4,h5,h6⟩:=h
 exact ⟨sd,vB,vE,bv,ev,B,E,L.step hg,h4,h5,h6⟩
theorem kL8 (n : Nat) (x : Value) : List.replicate n x = jGw n (fun _ => x):=by
 unfold jGw
 apply List.ext_getElem?
 intro i
 by_cases h : i < n <;> simp [h]
theorem jO6 (w : World) (n : Nat) (hn : n ≤ 100000) : ∃ w',(Instr.makeSlice 96 (.int .i64 (n : Int)) (.int .i64 (n : Int))).run Tryz.prog w = .ok (.slice (some ⟨w.heap.size,0,none⟩) n n) w' ∧ w'.ownsRow 0 181 1 (.slice (some ⟨w.heap.size,0,none⟩) n n) n (jGw n fun _ => .slice none 0 0) ∧ w.grownBy w' none:=by
 obtain ⟨i0,hi0,hz0,hz1,hz2⟩:=info_parts jZw
 obtain ⟨w',h1,h2,h3⟩:=run_make_full (P:=Tryz.prog) w 0 96 181 i0 (.slice none 0 0) 1 Tryz.underlying96 hi0 hz0 hz1 .i64 .i64 n (by rw [hz2];omega) (by unfold maxLen;omega) (Nat.zero_le _)
 refine ⟨w',h1,?_,h3⟩
 have e : (Value.slice none 0 0).cells = #[.slice none 0 0]:=rfl
 rw [e,Nat.mul_one,toList_madeCells_one,kL8] at h2
 exact h2
theorem jAb.made {F : Nat → Prop} {w0 w w' : World} {R : jAd} {n : Nat} (H : jAb F w0 w R) (hown : w'.ownsRow 0 181 1 (.slice (some ⟨w.heap.size,0,none⟩) n n) n (jGw n fun _ => .slice none 0 0)) (hg : w.grownBy w' none) : jAb F w0 w' ((arP (.slice (some ⟨w.heap.size,0,none⟩) n n) n fun _ => .slice none 0 0).and ((jD6 (· < n) (enF (fun _ => .slice none 0 0) fun _ => [])).and R)):=by
 have H1:=H.many0 (I:=(· < n)) (A:=enF (fun _ => .slice none 0 0) fun _ => []) (fun i _ => World.ownsRow_nil _ _ _ _) (fun i k hk => by cases hk)
 refine H1.new hg hown fun k hk => ?_
 have hk' : w.heap.size = k:=by
  have : some w.heap.size = some k:=hk
  exact Option.some.inj this
 subst hk'
 exact ⟨Nat.le_refl _,(jCw hown rfl).2.1⟩
theorem kMl (sd : Nat) (hsd : sd < 18446744073709551616) (w : World) : Calls Tryz.prog 22 #[.int .u64 sd] w fun e w' => ∃ b own,e = .returned (.pointer (some ⟨b,0,none⟩)) ∧ (∀ k,own k → w.heap.size ≤ k) ∧ Tb0 w' b own jL8 ∧ w.grownBy w' none:=by
 obtain ⟨w1,hr0,ho1,hg1⟩:=jO6 w 8 (by decide)
 have hr1 : (Instr.makeSlice 96 (.int .i64 8) (.int .i64 8)).run Tryz.prog w = .ok (.slice (some ⟨w.heap.size,0,none⟩) 8 8) w1:=hr0
 have L0:=(jAb.bare w).many0 (I:=(· < 0)) (A:=enF (fun _ => .slice none 0 0) fun _ => []) (fun i _ => World.ownsRow_nil _ _ _ _) (fun i k hk => by cases hk)
 have L1:=(L0.nil (n0:=0) (e:=181) (size:=1)).made ho1 hg1
 have L2:=L1.box (.cells #[.int .u64 sd,.int .i64 0,.slice (some ⟨w.heap.size,0,none⟩) 8 8,.slice none 0 0] 98)
 have HL:=jAa L2
 have hg2:=jAt hg1 (World.grownBy_alloc w1 (.cells #[.int .u64 sd,.int .i64 0,.slice (some ⟨w.heap.size,0,none⟩) 8 8,.slice none 0 0] 98) none)
 clear L0 L1 L2 ho1 hg1 hr0
 go_enter Tryz.func22,Tryz.ntmps22
 go_wp2
 go_ret
 refine ⟨_,rfl,_,?_,⟨sd,_,_,_,_,_,_,rfl,HL.out.q,fun k hk => (HL.out.lt k hk).1,⟨?_,fun i hi => absurd hi (Nat.not_lt_zero _),fun i _ p hp => (by cases hp)⟩,hsd,fun p hp => (by cases hp),jZ0⟩,hg2⟩
 ·intro k hk
  exact (HL.out.lt k hk).2.elim (fun h => h.elim) id
 ·show (jA4 0 _ ++ jA4 8 _).Perm []
  rw [jUx]
  exact List.Perm.refl _
section
variable {w : World} {b : Nat} {own : Nat → Prop} {st : Ts}
theorem kIw (h : Tb0 w b own st) : Calls Tryz.prog 114 #[.pointer (some ⟨b,0,none⟩)] w fun e w' => e = .returned (.int .i64 st.l.length) ∧ w' = w:=by
 obtain ⟨sd,vB,vE,bv,ev,B,E,L⟩:=h.tab
 obtain ⟨-,c1,-,-⟩:=jIo L.law.q.1
 clear L
 go_enter Tryz.func114,Tryz.ntmps114
 go_wp2
 go_ret
 exact ⟨rfl,rfl⟩
end
end
end Go.Proofs.YtkfeafmpaodagaaGreatDoor
