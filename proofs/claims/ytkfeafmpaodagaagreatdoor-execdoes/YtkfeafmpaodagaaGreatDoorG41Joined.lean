/- What the document's own Decimal answers: the same number as that of package num; it writes nothing. Conditions: none but the text's length. What the document's own Show answers: the number's decimal numeral; it writes nothing that was there. Conditions: none. -/
import Derived.Test.YtkfeafmpaodagaaGreatDoorG40Joined
import Derived.Test.YtkfeafmpaodagaaGreatDoorG02Joined
namespace Go.Proofs.YtkfeafmpaodagaaGreatDoor
set_option maxHeartbeats 16000000
section
open Go.RowKit
def jF3 (l : List UInt8) (k : Nat) (a : Int) : Lib.NumEnd Nat:=Lib.parseUintM 18446744073709551615 a.toNat (l.drop k)
theorem kOo {l : List UInt8} (h0 : l ≠ []) (h : l.length ≤ 40) : dec l = match jF3 l 0 0 with | .ok u => some u | _ => none:=by
 unfold dec jF3 Lib.parseUintB
 rw [if_neg (by omega),if_neg h0]
 rfl
theorem kHy (l : List UInt8) (k : Nat) (a : Int) (h : l.length ≤ k) : jF3 l k a = .ok a.toNat:=by
 unfold jF3
 rw [List.drop_of_length_le h]
 rfl
theorem kCr (l : List UInt8) (k : Nat) (a : Int) (h : k < l.length) (h0 : 0 ≤ a) (c : Int) (hc : c = (l[k].toNat : Int)) (h48 : 48 ≤ c) (h57 : c ≤ 57) (hr : a ≤ (18446744073709551615 - (c - 48)) / 10) : jF3 l k a = jF3 l (k + 1) (10 * a + (c - 48)):=by
 unfold jF3
 rw [List.drop_eq_getElem_cons h]
 simp only [Lib.parseUintM]
 rw [if_pos (by omega),if_neg (by omega),if_neg (by omega)]
 congr 1
 omega
theorem jV0 (l : List UInt8) (k : Nat) (a : Int) (h : k < l.length) (c : Int) (hc : c = (l[k].toNat : Int)) (hd : c < 48 ∨ 57 < c) : (match jF3 l k a with | .ok u => some u | _ => none) = none:=by
 unfold jF3
 rw [List.drop_eq_getElem_cons h]
 simp only [Lib.parseUintM]
 rw [if_neg (by omega)]
theorem jZ4 (l : List UInt8) (k : Nat) (a : Int) (h : k < l.length) (h0 : 0 ≤ a) (c : Int) (hc : c = (l[k].toNat : Int)) (h48 : 48 ≤ c) (h57 : c ≤ 57) (hr : (18446744073709551615 - (c - 48)) / 10 < a) : (match jF3 l k a with | .ok u => some u | _ => none) = none:=by
 unfold jF3
 rw [List.drop_eq_getElem_cons h]
 simp only [Lib.parseUintM]
 rw [if_pos (by omega)]
 by_cases h1 : 1844674407370955162 ≤ a.toNat
 ·rw [if_pos h1]
 ·rw [if_neg h1,if_pos (by omega)]
theorem jRo {l : List UInt8} {v : Int} {b : Bool} (h1 : jFy l = v) (h2 : jE4 l = b) : Ending.returned (.tuple #[.int .u64 v,.bool b]) = .returned (.tuple #[.int .u64 (jFy l),.bool (jE4 l)]):=by rw [h1,h2]
theorem jTm (s : ByteArray) (hs : s.size ≤ 140737488351232) (w : World) :
  Calls Tryz.prog 80 #[.string s] w fun e w' => e = .returned (.tuple #[.int .u64 (jFy s.data.toList),.bool (jE4 s.data.toList)]) ∧ w' = w:=by
 have hl:=jVk s
 by_cases h40 : s.size = 0 ∨ 40 < s.size
 ·have e1 : dec s.data.toList = none:=by
   rcases h40 with h | h
   ·have e : s.data.toList = []:=List.eq_nil_of_length_eq_zero (by omega)
    rw [e];rfl
   ·simp [dec,hl,h]
  rw [show jFy s.data.toList = 0 by simp [jFy,e1],show jE4 s.data.toList = false by simp [jE4,e1]]
  clear e1 hl
  rcases h40 with h | h
  ·have hi : (s.size : Int) = 0:=by omega
   go_enter Tryz.func80,Tryz.ntmps80
   go_wp2
   go_ret2
   exact ⟨rfl,rfl⟩
  ·have hi : (40 : Int) < (s.size : Int):=by omega
   have hz : ((s.size : Int) == 0) = false:=by rw [beq_eq_false_iff_ne];omega
   go_enter Tryz.func80,Tryz.ntmps80
   go_wp2
   go_ret2
   exact ⟨rfl,rfl⟩
 ·have hi : ((s.size : Int) == 0) = false:=by rw [beq_eq_false_iff_ne];omega
  have hj : (s.size : Int) ≤ 40:=by omega
  have HD : Hid (dec s.data.toList = match jF3 s.data.toList 0 0 with | .ok u => some u | _ => none):=kOo (by intro h;rw [h] at hl;simp at hl;omega) (by omega)
  have HL : Hid (s.data.toList.length = s.size):=hl
  clear h40 hl
  go_enter Tryz.func80,Tryz.ntmps80
  go_wp2
  go_loop [4,5] (fun n i => ∃ (k : Nat) (a : Int),k ≤ s.size ∧ i = .int .i64 k ∧ n = .int .u64 a ∧ 0 ≤ a ∧ a ≤ 18446744073709551615 ∧ Hid (jF3 s.data.toList 0 0 = jF3 s.data.toList k a)) (fun _ i => s.size - (intOf i).toNat)
  case atStart => exact ⟨0,0,Nat.zero_le _,rfl,rfl,by omega,by omega,rfl⟩
  case round =>
   obtain ⟨k,a,hk,rfl,rfl,ha0,ha1,HR⟩:=hrel
   by_cases hlt : k < s.size
   ·have HK : Hid (k < s.data.toList.length):=by have:=HL.out;show _ < _;omega
    obtain ⟨c,hc⟩ : ∃ c : Int,c = ((s[k]'hlt).toNat : Int):=⟨_,rfl⟩
    have hc' : ((s[k]'hlt).toNat : Int) = c:=hc.symm
    have HC : Hid (c = ((s.data.toList[k]'HK.out).toNat : Int)):=hc
    have hcb : 0 ≤ c ∧ c ≤ 255:=by have:=(s[k]'hlt).toNat_lt;omega
    clear hc
    by_cases hd : c < 48 ∨ 57 < c
    ·have HN : Hid (dec s.data.toList = none):=by show _ = _;rw [HD.out,HR.out];exact jV0 _ _ _ HK.out c HC.out hd
     rcases hd with hd | hd
     all_goals
      go_wp2
      go_ret2
      exact ⟨jRo (by simp [jFy,HN.out]) (by simp [jE4,HN.out]),rfl⟩
    ·have h48 : 48 ≤ c:=by omega
     have h57 : c ≤ 57:=by omega
     clear hd
     by_cases hr : (18446744073709551615 - (c - 48)) / 10 < a
     ·have HN : Hid (dec s.data.toList = none):=by show _ = _;rw [HD.out,HR.out];exact jZ4 _ _ _ HK.out ha0 c HC.out h48 h57 hr
      go_wp2
      go_ret2
      exact ⟨jRo (by simp [jFy,HN.out]) (by simp [jE4,HN.out]),rfl⟩
     ·have HS : Hid (jF3 s.data.toList 0 0 = jF3 s.data.toList (k + 1) (10 * a + (c - 48))):=HR.out.trans (kCr _ _ _ HK.out ha0 c HC.out h48 h57 (by omega))
      go_wp2
      go_round
      case rel => exact ⟨k + 1,10 * a + (c - 48),by omega,by go_num,rfl,by omega,by omega,HS⟩
      case measure => simp [intOf];omega
   ·have HN : Hid (dec s.data.toList = some a.toNat):=by show _ = _;rw [HD.out,HR.out,kHy _ _ _ (by have:=HL.out;omega)]
    go_wp2
    go_ret2
    exact ⟨jRo (by simp [jFy,HN.out];omega) (by simp [jE4,HN.out]),rfl⟩
end
section
open Go.RowKit
theorem kI9 : (Tryz.prog.info? 5).map (fun i => (i.zero,i.size,i.bytes)) = some (some (.int .u8 0),1,1):=by kernel_rfl
theorem kG2 {w : World} {base g n cap : Nat} {zs : List Int} (ho : w.ownsRow base 5 1 (.slice (some ⟨g,0,none⟩) n cap) n (zs.map (Value.int .u8))) (hz : ∀ z ∈ zs,0 ≤ z ∧ z ≤ 255) :
  (convert 30 9 (.slice (some ⟨g,0,none⟩) n cap)).run Tryz.prog w = .ok (.string (jP0 zs)) w:=by
 have hn : zs.length = n:=by have:=ho.1;simpa using this
 have h:=run_convert_bytes_back (P:=Tryz.prog) w 30 9 5 ⟨g,0,none⟩ cap (zs.map fun z => UInt8.ofNat z.toNat) Tryz.underlying30 Tryz.underlying5 Tryz.underlying9 (fun j hj => by
  have hj' : j < zs.length:=by simpa using hj
  rw [Lib.add_plain,Nat.zero_add,ho.cellAt j (by omega),List.getElem?_map,List.getElem?_eq_getElem hj']
  have:=hz _ (List.getElem_mem hj')
  simp only [List.getElem_map,Option.map_some,UInt8.toNat_ofNat']
  congr 2
  omega)
 rw [List.length_map,hn] at h
 exact h
def jQ4 (m : Nat) : List UInt8:=if m = 0 then [] else Lib.decDigits m
theorem kEo (m : Nat) (h : 0 < m) : jQ4 m = jQ4 (m / 10) ++ [UInt8.ofNat (48 + m % 10)]:=by
 unfold jQ4
 rw [if_neg (by omega)]
 by_cases h1 : m < 10
 ·rw [if_pos (by omega),Lib.decDigits_one h1,Nat.mod_eq_of_lt h1]
  rfl
 ·rw [if_neg (by omega),Lib.decDigits,dif_neg h1]
theorem kOq {a b : ByteArray} (h : a = b) : Ending.returned (.string a) = .returned (.string b):=by rw [h]
def toB (zs : List Int) : List UInt8:=zs.map fun z => UInt8.ofNat z.toNat
theorem kDy (a b : List Int) : toB (a ++ b) = toB a ++ toB b:=by simp [toB]
theorem jTt (l : List Int) (i : Nat) (h : i < l.length) : l.getD i 0 = l[i]:=by simp [List.getD,List.getElem?_eq_getElem h]
def jFj (zs : List Int) (k : Nat) : List Int:=(List.range zs.length).map fun i => if i < k ∨ zs.length ≤ i + k then zs.getD (zs.length - 1 - i) 0 else zs.getD i 0
theorem jX6 (zs : List Int) (k : Nat) : (jFj zs k).length = zs.length:=by simp [jFj]
theorem kCw (zs : List Int) : jFj zs 0 = zs:=by
 apply List.ext_getElem
 ·simp [jFj]
 ·intro i h1 h2
  simp only [jFj,List.getElem_map,List.getElem_range]
  rw [if_neg (by omega),jTt _ _ h2]
theorem jU3 (zs : List Int) (k : Nat) (h : zs.length / 2 ≤ k) : jFj zs k = zs.reverse:=by
 apply List.ext_getElem
 ·simp [jFj]
 ·intro i h1 h2
  have hi : i < zs.length:=by simpa [jFj] using h1
  simp only [jFj,List.getElem_map,List.getElem_range,List.getElem_reverse]
  by_cases hc : i < k ∨ zs.length ≤ i + k
  ·rw [if_pos hc,jTt _ _ (by omega)]
  ·rw [if_neg hc,jTt _ _ hi]
   congr 1
   omega
theorem jZd (zs : List Int) (k i : Nat) (hi : i < zs.length) (h : k ≤ i) (h2 : i + k < zs.length) : (jFj zs k)[i]? = some (zs.getD i 0):=by
 rw [List.getElem?_eq_getElem (by rw [jX6];exact hi)]
 simp only [jFj,List.getElem_map,List.getElem_range]
 rw [if_neg (by omega)]
theorem kEf (zs : List Int) (k j : Nat) (hj : j = zs.length - 1 - k) (h : k < zs.length / 2) : ((jFj zs k).set k (zs.getD j 0)).set j (zs.getD k 0) = jFj zs (k + 1):=by
 apply List.ext_getElem
 ·simp [jFj]
 ·intro i h1 h2
  have hi : i < zs.length:=by simpa [jFj] using h2
  simp only [jFj,List.getElem_set,List.getElem_map,List.getElem_range]
  by_cases e1 : j = i
  ·rw [if_pos e1,if_pos (by omega)]
   congr 1
   omega
  ·rw [if_neg e1]
   by_cases e2 : k = i
   ·rw [if_pos e2,if_pos (by omega)]
    congr 1
    omega
   ·rw [if_neg e2]
    by_cases e3 : i < k ∨ zs.length ≤ i + k
    ·rw [if_pos e3,if_pos (by omega)]
    ·rw [if_neg e3,if_neg (by omega)]
theorem kC8 {w : World} {base e size n : Nat} {v : Value} {xs : List Value} (h : w.ownsRow base e size v n xs) {b : Nat} (hb : v.ownBlock = some b) : base ≤ b:=by
 rcases h.2 with ⟨rfl,_⟩ | ⟨g,cap,cur,rfl,hg,_⟩
 ·cases hb
 ·cases hb;exact hg
theorem kDh {w : World} {base e size n : Nat} {v : Value} {xs : List Value} (h : w.ownsRow base e size v n xs) (h1 : 1 ≤ n) : ∃ g cap,v = .slice (some ⟨g,0,none⟩) n cap ∧ base ≤ g:=by
 rcases h.2 with ⟨_,h0⟩ | ⟨g,cap,cur,rfl,hg,_⟩
 ·omega
 ·exact ⟨g,cap,rfl,hg⟩
theorem jQh (l : List Int) (i : Nat) (x : Int) : (l.map (Value.int .u8)).set i (.int .u8 x) = (l.set i x).map (Value.int .u8):=by rw [List.map_set]
set_option maxRecDepth 100000 in
theorem jZl (n : Nat) (h0 : 0 < n) (hn : n < 18446744073709551616) (w : World) :
  Calls Tryz.prog 73 #[.int .u64 n] w fun e w' => e = .returned (.string ⟨(Lib.decDigits n).toArray⟩) ∧ Below w.heap.size w w':=by
 obtain ⟨i0,hi,hz0,hz1,hz2⟩:=info_parts kI9
 have hlen:=jJf n hn
 have hne : ((n : Int) == 0) = false:=by rw [beq_eq_false_iff_ne];omega
 go_enter Tryz.func73,Tryz.ntmps73
 go_wp2
 go_loopw [0,3] (fun x v wr => ∃ (m : Nat) (zs : List Int),x = .int .u64 m ∧ m < 18446744073709551616 ∧ wr.ownsRow w.heap.size 5 1 v zs.length (zs.map (Value.int .u8)) ∧ Below w.heap.size w wr ∧
   Hid (Lib.decDigits n = jQ4 m ++ toB zs.reverse ∧ (∀ z ∈ zs,48 ≤ z ∧ z ≤ 57)))
  (fun x _ _ => (intOf x).toNat)
 case atStart => exact ⟨n,[],rfl,hn,World.ownsRow_nil _ _ _ _,Below.refl _ _,by simp [jQ4,toB];omega,by simp⟩
 case round =>
  obtain ⟨m,zs,rfl,hm,hown,hnx,HR⟩:=hrel
  by_cases hpos : 0 < m
  ·have hzl : zs.length ≤ 20:=by
    have h1:=HR.out.1
    have h2:=congrArg List.length h1
    simp [toB] at h2
    omega
   have hgt : (0 : Int) < (m : Int):=by omega
   go_wp2_with (first
    | (at_builtin;refine wpList_append_own _ rfl _ _ 30 rfl w.heap.size 5 i0 (.int .u8 0) 1 1 Tryz.underlying30 hi hz0 hz1 hz2 rfl (by decide) _ _ _ rfl (hown.alloc _) ⟨wr.heap.size,0,none⟩ 1 1 [.int .u8 (48 + (m : Int) % 10)] rfl rfl ?c1 ?c2 ?c3 ?c4 ?c5 ?_))
   case c1 =>
    intro j u hj
    match j,hj with
    | 0,hj => simp at hj;subst hj;simp [Addr.add]
   case c2 => intro u hu;simp at hu;subst hu;rfl
   case c3 => unfold maxLen;omega
   case c4 => omega
   case c5 => have:=hnx.size;simp;omega
   intro v' w1 hown' hgrow _
   have hb1 : Below w.heap.size w w1:=(hnx.alloc hnx.size _).grown hgrow (by have:=hnx.size;simp;omega) (fun b hb => kC8 hown hb)
   have HN : Hid (Lib.decDigits n = jQ4 (m / 10) ++ toB (zs ++ [48 + (m : Int) % 10]).reverse ∧ (∀ z ∈ zs ++ [48 + (m : Int) % 10],48 ≤ z ∧ z ≤ 57)):=by
    obtain ⟨h1,h2⟩:=HR.out
    refine ⟨?_,?_⟩
    ·rw [h1,kEo m hpos,List.reverse_append,kDy,List.append_assoc]
     congr 1
    ·intro z hz
     rcases List.mem_append.1 hz with h | h
     ·exact h2 z h
     ·simp only [List.mem_singleton] at h
      omega
   have HO : Hid (w1.ownsRow w.heap.size 5 1 v' (zs ++ [48 + (m : Int) % 10]).length ((zs ++ [48 + (m : Int) % 10]).map (Value.int .u8))):=by
    show World.ownsRow _ _ _ _ _ _ _
    rw [List.length_append,List.map_append]
    exact hown'
   clear hown' hgrow hown HR
   go_wp2
   go_roundw
   case rel => exact ⟨m / 10,_,by go_num,by omega,HO.out,hb1,HN⟩
   case measure => simp [intOf];omega
  ·have hm0 : m = 0:=by omega
   subst hm0
   have HD : Hid (Lib.decDigits n = toB zs.reverse):=by have:=HR.out.1;show _ = _;simpa [jQ4] using this
   have HZ : Hid (∀ z ∈ zs,48 ≤ z ∧ z ≤ 57):=HR.out.2
   have hl1 : 1 ≤ zs.length:=by
    rcases Nat.eq_zero_or_pos zs.length with h | h
    ·have e:=List.eq_nil_of_length_eq_zero h
     have:=HD.out
     rw [e] at this
     exact absurd this (kFp n)
    ·exact h
   have hl20 : zs.length ≤ 20:=by
    have:=congrArg List.length HD.out
    simp [toB] at this
    omega
   obtain ⟨L,hL⟩ : ∃ L,zs.length = L:=⟨_,rfl⟩
   have HL : Hid (zs.length = L):=hL
   rw [hL] at hown hl1 hl20
   obtain ⟨g,cap,rfl,hg⟩:=kDh hown hl1
   clear HR hL hpos hm
   go_wp2
   go_loopw [4] (fun i w2 => ∃ k : Nat,k ≤ L / 2 ∧ i = .int .i64 k ∧ w2.ownsRow w.heap.size 5 1 (.slice (some ⟨g,0,none⟩) L cap) L ((jFj zs k).map (Value.int .u8)) ∧ Below w.heap.size w w2)
    (fun i _ => L - (intOf i).toNat)
   case atStart => exact ⟨0,Nat.zero_le _,rfl,by rw [kCw];exact hown,hnx⟩
   case round =>
    obtain ⟨k,hk,rfl,hown2,hnx2⟩:=hrel
    clear hown hnx
    by_cases hlt : k < L / 2
    ·obtain ⟨j,hj⟩ : ∃ j,j = L - 1 - k:=⟨_,rfl⟩
     have hji : (L : Int) - 1 - (k : Int) = (j : Int):=by omega
     have hjL : j < L:=by omega
     have hkj : k < j:=by omega
     have c1:=hown2.cellAt k (by omega)
     have c2:=hown2.cellAt j (by omega)
     rw [List.getElem?_map,jZd zs k k (by have:=HL.out;omega) (by omega) (by have:=HL.out;omega)] at c1
     rw [List.getElem?_map,jZd zs k j (by have:=HL.out;omega) (by omega) (by have:=HL.out;omega)] at c2
     have z1:=hown2.frozenAt k
     have z2:=hown2.frozenAt j
     have st:=(hown2.stored k (.int .u8 (zs.getD j 0))).1.stored j (.int .u8 (zs.getD k 0))
     rw [jQh,jQh,kEf zs k j (by have:=HL.out;omega) (by have:=HL.out;omega)] at st
     obtain ⟨x,hx⟩ : ∃ x,x = zs.getD k 0:=⟨_,rfl⟩
     obtain ⟨y,hy⟩ : ∃ y,y = zs.getD j 0:=⟨_,rfl⟩
     rw [← hx] at c1 st
     rw [← hy] at c2 st
     simp only [Option.map_some] at c1 c2
     have ST:=Lib.hid st.1
     have HJ:=Lib.hid hj
     clear st hx hy hj
     go_wp2
     go_roundw
     case rel => exact ⟨k + 1,by omega,by go_num,ST.out,(hnx2.setCell (p:=⟨g,k,none⟩) hg _).setCell (p:=⟨g,j,none⟩) hg _⟩
     case measure => simp [intOf];omega
    ·have hcv:=kG2 hown2 (by rw [jU3 zs k (by have:=HL.out;omega)];intro z hz;have:=HZ.out z (List.mem_reverse.1 hz);omega)
     rw [jU3 zs k (by have:=HL.out;omega)] at hcv
     have HE : Hid (jP0 zs.reverse = ⟨(Lib.decDigits n).toArray⟩):=by show _ = _;rw [HD.out];rfl
     clear hown2
     go_wp2
     go_ret
     exact ⟨kOq HE.out,hnx2⟩
theorem jZk : Lib.decDigits 0 = [48]:=by rw [Lib.decDigits_one (by decide)];rfl
theorem jQu (n : Nat) (hn : n < 18446744073709551616) (w : World) :
  Calls Tryz.prog 73 #[.int .u64 n] w fun e w' => e = .returned (.string ⟨(Lib.decDigits n).toArray⟩) ∧ Below w.heap.size w w':=by
 rcases Nat.eq_zero_or_pos n with h | h
 ·subst h
  rw [jZk]
  have e : ((0 : Nat) : Int) = 0:=rfl
  rw [e]
  go_enter Tryz.func73,Tryz.ntmps73
  go_wp2
  go_ret
  exact ⟨rfl,Below.refl _ _⟩
 ·exact jZl n h hn w
end
end Go.Proofs.YtkfeafmpaodagaaGreatDoor
