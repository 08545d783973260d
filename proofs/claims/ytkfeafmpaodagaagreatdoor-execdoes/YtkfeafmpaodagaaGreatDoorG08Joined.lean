/- The contracts of package sketch, over a word 'Sk' that says what a sketch in memory has counted. Nothing of the program is walked here. Conditions: none. What the sketch is in memory, two counters in a byte, and what New, Copy, Age, shift and counter come to in package sketch. Conditions: none. What counter and halve come to in package sketch. Conditions: none. The places of a text in package sketch: the sequence that is made, and what it tells, one by one, as long as one goes on: it ranges over hash.Several itself. Conditions: the text takes at most 140737488351232 bytes. What Count of package sketch answers. Conditions: the text takes at most 300 bytes. What Add of package sketch does, and with it all of the package's contracts. Conditions: the text takes at most 300 bytes. -/
import Derived.Test.YtkfeafmpaodagaaGreatDoorG00Joined
import Derived.Test.YtkfeafmpaodagaaGreatDoorG03Joined
import Derived.Laws.Tables
import Derived.Laws.Rows
import Derived.Laws.CopyRow
import Derived.Deep.MidRow
import Derived.Deep.WholeRow
import Derived.BigQuiet
import Derived.RangeFuncSeq
import Derived.Test.YtkfeafmpaodagaaGreatDoorG06Joined
namespace Go.Proofs.YtkfeafmpaodagaaGreatDoor
set_option maxHeartbeats 16000000
set_option maxRecDepth 100000
section
open Go.RowKit
structure jEi (Sk : World → Nat → Nat → St → Prop) : Prop where
 lt : ∀ {w b sd st},Sk w b sd st → b < w.heap.size
 good : ∀ {w b sd st},Sk w b sd st → jLl st ∧ sd < 18446744073709551616
 keep : ∀ {w w' b sd st},Sk w b sd st → w'.heap[b]? = w.heap[b]? → Sk w' b sd st
 new : ∀ (sd : Nat),sd < 18446744073709551616 → ∀ w : World,Calls Tryz.prog 50 #[.int .u64 sd] w fun e w' => ∃ b,e = .returned (.pointer (some ⟨b,0,none⟩)) ∧ w.heap.size ≤ b ∧ Sk w' b sd jOf ∧ w.grownBy w' none
 add : ∀ {w b sd st},Sk w b sd st → ∀ s : ByteArray,s.size ≤ 140737488351232 → Calls Tryz.prog 91 #[.pointer (some ⟨b,0,none⟩),.string s] w fun e w' => e = .returned (.bool (jDh st)) ∧ Sk w' b sd (addK sd st s.data.toList) ∧ w.grownBy w' (some b)
 count : ∀ {w b sd st},Sk w b sd st → ∀ s : ByteArray,s.size ≤ 140737488351232 → Calls Tryz.prog 228 #[.pointer (some ⟨b,0,none⟩),.string s] w fun e w' => e = .returned (.int .i64 (cnt st.1 (jDu sd s.data.toList))) ∧ Sk w' b sd st ∧ w.grownBy w' none
variable {Sk : World → Nat → Nat → St → Prop}
theorem jEi.kept (L : jEi Sk) {w w' : World} {b sd : Nat} {st : St} {row : Option Nat} (h : Sk w b sd st) (hg : w.grownBy w' row) (hr : row ≠ some b) : Sk w' b sd st:=L.keep h (hg.block b (L.lt h) (fun e => hr e.symm))
end
section
open Go.RowKit
def pk (C : List Nat) (j : Nat) : Nat:=C.getD (2 * j) 0 + 16 * C.getD (2 * j + 1) 0
def jFe (C : List Nat) : List Nat:=(List.range 128).map (pk C)
theorem jJ0 (C : List Nat) : (jFe C).length = 128:=by simp [jFe]
theorem jWz (C : List Nat) (j : Nat) (h : j < 128) : (jFe C)[j]? = some (pk C j):=by
 simp [jFe,List.getElem?_map,List.getElem?_range h]
theorem jMo (C : List Nat) (j : Nat) (h : j < 128) : (jFe C).getD j 0 = pk C j:=by
 simp only [List.getD,jWz C j h,Option.getD_some]
theorem kDp {C : List Nat} (h : ∀ c ∈ C,c ≤ 15) (j : Nat) : pk C j < 256:=by
 have h1:=jK8 h (2 * j)
 have h2:=jK8 h (2 * j + 1)
 unfold pk
 omega
theorem kJf {C : List Nat} {l : List Nat} (hl : l.length = 128) (h : ∀ j,j < 128 → l.getD j 0 = pk C j) : l = jFe C:=by
 apply List.ext_getElem?
 intro j
 by_cases hj : j < 128
 ·rw [jWz C j hj,← h j hj]
  simp [List.getD,List.getElem?_eq_getElem (show j < l.length by omega)]
 ·rw [List.getElem?_eq_none (by omega),List.getElem?_eq_none (by rw [jJ0];omega)]
theorem jM1 (l : List Nat) (i j x : Nat) (h : i < l.length) : (l.set i x).getD j 0 = if i = j then x else l.getD j 0:=by
 simp only [List.getD,List.getElem?_set]
 by_cases e : i = j
 ·subst e
  simp [h]
 ·simp [e]
theorem kJr {C : List Nat} (hl : C.length = 256) (g : Nat) (hg : g < 256) (h : C.getD g 0 < 15) : jFe (inc C g) = (jFe C).set (g / 2) (pk C (g / 2) + (if g % 2 = 0 then 1 else 16)):=by
 symm
 apply kJf (by rw [List.length_set,jJ0])
 intro j hj
 rw [jM1 _ _ _ _ (by rw [jJ0];omega),jMo C j hj]
 unfold inc pk
 rw [if_pos h,jM1 _ _ _ _ (by omega),jM1 _ _ _ _ (by omega)]
 by_cases e : g / 2 = j
 ·subst e
  rw [if_pos rfl]
  have h2:=Nat.mod_two_eq_zero_or_one g
  rcases h2 with h2 | h2
  ·have e1 : 2 * (g / 2) = g:=by omega
   rw [if_pos h2,e1,if_pos rfl,if_neg (by omega)]
   omega
  ·have e1 : 2 * (g / 2) + 1 = g:=by omega
   rw [if_neg (by omega),e1,if_neg (by omega),if_pos rfl]
   omega
 ·rw [if_neg e,if_neg (by omega),if_neg (by omega)]
theorem kG3 {C : List Nat} (g : Nat) (h : ¬ C.getD g 0 < 15) : inc C g = C:=by
 unfold inc
 rw [if_neg h]
def jF6 (sd age : Nat) (bs : List Nat) : Array Value:=(.int .u64 sd :: .int .i64 age :: bs.map fun x => .int .u8 (x : Nat)).toArray
def Blk (w : World) (b sd age : Nat) (bs : List Nat) : Prop:=w.heap[b]? = some (.cells (jF6 sd age bs) 161 (0,0))
def Sk0 (w : World) (b sd : Nat) (st : St) : Prop:=jLl st ∧ sd < 18446744073709551616 ∧ Blk w b sd st.2 (jFe st.1)
theorem blk_lt {w : World} {b sd age : Nat} {bs : List Nat} (h : Blk w b sd age bs) : b < w.heap.size:=(Array.getElem?_eq_some_iff.1 h).1
theorem jNu {w w' : World} {b sd age : Nat} {bs : List Nat} (h : Blk w b sd age bs) (e : w'.heap[b]? = w.heap[b]?) : Blk w' b sd age bs:=e.trans h
theorem jW3 {w : World} {b sd age : Nat} {bs : List Nat} (h : Blk w b sd age bs) : w.cell? ⟨b,0,none⟩ = some (.int .u64 sd):=by
 rw [cell_of_row w b _ _ _ _ h]
 rfl
theorem jT0 {w : World} {b sd age : Nat} {bs : List Nat} (h : Blk w b sd age bs) : w.cell? ⟨b,1,none⟩ = some (.int .i64 age):=by
 rw [cell_of_row w b _ _ _ _ h]
 rfl
theorem jSw {w : World} {b sd age : Nat} {bs : List Nat} (h : Blk w b sd age bs) (j : Nat) (hj : j < bs.length) : w.cell? ⟨b,2 + j,none⟩ = some (.int .u8 (bs.getD j 0 : Nat)):=by
 rw [cell_of_row w b _ _ _ _ h]
 simp [jF6,Nat.add_comm 2,hj,List.getD]
theorem jOh {w : World} {b sd age : Nat} {bs : List Nat} (h : Blk w b sd age bs) (j : Nat) : w.frozen? ⟨b,j,none⟩ = false:=frozen_of_row w b _ _ _ h
theorem kBk {w : World} {b sd age : Nat} {bs : List Nat} (h : Blk w b sd age bs) (j y : Nat) : Blk (w.setCell ⟨b,2 + j,none⟩ (.int .u8 (y : Nat))) b sd age (bs.set j y):=by
 unfold Blk
 rw [heap_setCell_same w b _ _ _ _ h]
 unfold jF6
 rw [List.setIfInBounds_toArray,Nat.add_comm,List.set_cons_succ,List.set_cons_succ,List.map_set]
theorem jSd {w : World} {b sd age : Nat} {bs : List Nat} (h : Blk w b sd age bs) (y : Nat) : Blk (w.setCell ⟨b,1,none⟩ (.int .i64 (y : Nat))) b sd y bs:=by
 unfold Blk
 rw [heap_setCell_same w b _ _ _ _ h]
 unfold jF6
 rw [List.setIfInBounds_toArray,List.set_cons_succ,List.set_cons_zero]
theorem jWe {w : World} {b sd : Nat} {st : St} (h : Sk0 w b sd st) : b < w.heap.size:=blk_lt h.2.2
theorem kOr {w : World} {b sd : Nat} {st : St} (h : Sk0 w b sd st) : jLl st ∧ sd < 18446744073709551616:=⟨h.1,h.2.1⟩
theorem jI2 {w w' : World} {b sd : Nat} {st : St} (h : Sk0 w b sd st) (e : w'.heap[b]? = w.heap[b]?) : Sk0 w' b sd st:=⟨h.1,h.2.1,jNu h.2.2 e⟩
theorem zeroK (w : World) : (zeroValue 161).run Tryz.prog w = .ok (.agg (jF6 0 0 (jFe (List.replicate 256 0)))) w:=(zero_of_info (n:=130) (by kernel_rfl)).1 w
theorem jZ5 (x y age : Nat) (bs : List Nat) : (jF6 x age bs).setIfInBounds 0 (.int .u64 (y : Nat)) = jF6 y age bs:=by
 unfold jF6
 rw [List.setIfInBounds_toArray,List.set_cons_zero]
theorem kHl (x age : Nat) (bs : List Nat) : (jF6 x age bs = #[]) = False:=by
 simp [jF6]
theorem jV1 (sd : Nat) (w : World) : Calls Tryz.prog 50 #[.int .u64 sd] w fun e w' => e = .returned (.pointer (some ⟨w.heap.size,0,none⟩)) ∧ w' = w.alloc (.cells (jF6 sd 0 (jFe (List.replicate 256 0))) 161):=by
 have hz:=zeroK
 have hs:=jZ5 0 sd 0 (jFe (List.replicate 256 0))
 have hn:=kHl 0 0 (jFe (List.replicate 256 0))
 generalize jF6 0 0 (jFe (List.replicate 256 0)) = Z at *
 generalize jF6 sd 0 (jFe (List.replicate 256 0)) = Y at *
 go_enter Tryz.func50,Tryz.ntmps50
 go_wp2
 go_ret
 exact ⟨rfl,rfl⟩
theorem jVa (p : Nat) (h : p < 64) (w : World) : Calls Tryz.prog 130 #[.int .i64 p] w fun e w' => e = .returned (.int .i64 ((p % 2 * 4 : Nat) : Int)) ∧ w = w':=by
 have h1 : (p : Int).tmod 2 = ((p % 2 : Nat) : Int):=by rw [Int.tmod_eq_emod_of_nonneg (by omega)];omega
 have h2 : (p : Int) % 2 = ((p % 2 : Nat) : Int):=by omega
 have h3:=Nat.mod_lt p (show 0 < 2 by decide)
 generalize p % 2 = m at *
 clear h
 go_enter Tryz.func130,Tryz.ntmps130
 go_wp2
 go_ret
 exact ⟨by rw [Int.natCast_mul];rfl,rfl⟩
end
section
open Go.RowKit
theorem jYg (b r : Nat) (h : r < 4) (W : World) : (Instr.indexAt 159 (.pointer (some ⟨b,2,none⟩)) (.int .i64 (r : Int))).run Tryz.prog W = .ok (.pointer (some ⟨b,2 + 32 * r,none⟩)) W:=by
 have h8 : r = 0 ∨ r = 1 ∨ r = 2 ∨ r = 3:=by omega
 clear h
 rcases h8 with rfl | rfl | rfl | rfl <;> (show _ = _;kernel_rfl)
theorem jTi (b o c : Nat) (h : c < 32) (W : World) : (Instr.indexAt 158 (.pointer (some ⟨b,o,none⟩)) (.int .i64 (c : Int))).run Tryz.prog W = .ok (.pointer (some ⟨b,o + c,none⟩)) W:=by
 have h8 : c = 0 ∨ c = 1 ∨ c = 2 ∨ c = 3 ∨ c = 4 ∨ c = 5 ∨ c = 6 ∨ c = 7 ∨ c = 8 ∨ c = 9 ∨ c = 10 ∨ c = 11 ∨ c = 12 ∨ c = 13 ∨ c = 14 ∨ c = 15 ∨ c = 16 ∨ c = 17 ∨ c = 18 ∨ c = 19 ∨ c = 20 ∨ c = 21 ∨ c = 22 ∨ c = 23 ∨ c = 24 ∨ c = 25 ∨ c = 26 ∨ c = 27 ∨ c = 28 ∨ c = 29 ∨ c = 30 ∨ c = 31:=by omega
 clear h
 rcases h8 with rfl | rfl | rfl | rfl | rfl | rfl | rfl | rfl | rfl | rfl | rfl | rfl | rfl | rfl | rfl | rfl | rfl | rfl | rfl | rfl | rfl | rfl | rfl | rfl | rfl | rfl | rfl | rfl | rfl | rfl | rfl | rfl <;> (show _ = _;kernel_rfl)
theorem kF2 (n : Nat) (h : n < 9223372036854775808) : IntKind.i64.wrap (n : Int) = (n : Int):=by
 simp [IntKind.wrap,IntKind.bits,IntKind.signed]
 omega
theorem jYv (p : Nat) (h : p < 64) : ((p : Int) / 2) = ((p / 2 : Nat) : Int) ∧ (p : Int).tdiv 2 = ((p / 2 : Nat) : Int) ∧ Value.int .i64 (IntKind.i64.wrap ((p / 2 : Nat) : Int)) = .int .i64 ((p / 2 : Nat) : Int) ∧ p / 2 < 32:=by
 have h1 : ((p : Int) / 2) = ((p / 2 : Nat) : Int):=by omega
 have h2 : p / 2 < 32:=by omega
 refine ⟨h1,by rw [Int.tdiv_eq_ediv_of_nonneg (by omega)];exact h1,by rw [kF2 _ (Nat.lt_trans h2 (by decide))],h2⟩
theorem jZv {w : World} {b sd age : Nat} {bs : List Nat} (hl : bs.length = 128) (h : Blk w b sd age bs) (r p : Nat) (hr : r < 4) (hp : p < 64) (hb : bs.getD (32 * r + p / 2) 0 < 256) :
  Calls Tryz.prog 129 #[.pointer (some ⟨b,0,none⟩),.int .i64 r,.int .i64 p] w fun e w' => e = .returned (.int .i64 ((bs.getD (32 * r + p / 2) 0 / (if p % 2 = 0 then 1 else 16) % 16 : Nat) : Int)) ∧ ∃ m,w' = w.drewN m:=by
 have hc:=jSw h (32 * r + p / 2) (by omega)
 rw [← Nat.add_assoc] at hc
 generalize bs.getD (32 * r + p / 2) 0 = y at *
 have HS:=jVa p hp
 obtain ⟨hq,hqt,hqw,hq8⟩:=jYv p hp
 have h1:=jYg b r hr
 have h2:=jTi b (2 + 32 * r) _ hq8
 generalize p / 2 = c at *
 have hm:=Nat.mod_lt p (show 0 < 2 by decide)
 generalize p % 2 = m at *
 clear h hp hq8 hl hr
 obtain rfl | rfl : m = 0 ∨ m = 1:=by omega
 ·clear hm
  go_enter Tryz.func129,Tryz.ntmps129
  go_wp2
  go_quiet ((go_at_call 130;refine Calls.quiet_of_same ((HS _).mono fun e w' h => ⟨h.1,h.2.symm⟩)))
  go_wp2
  go_ret
  exact ⟨rfl,nq,rfl⟩
 ·clear hm
  go_enter Tryz.func129,Tryz.ntmps129
  go_wp2
  go_quiet ((go_at_call 130;refine Calls.quiet_of_same ((HS _).mono fun e w' h => ⟨h.1,h.2.symm⟩)))
  go_wp2
  go_ret
  exact ⟨rfl,nq,rfl⟩
theorem kF3 {C : List Nat} (hC : ∀ c ∈ C,c ≤ 15) (r p : Nat) : pk C (32 * r + p / 2) / (if p % 2 = 0 then 1 else 16) % 16 = C.getD (r * 64 + p) 0:=by
 have h1:=jK8 hC (2 * (32 * r + p / 2))
 have h2:=jK8 hC (2 * (32 * r + p / 2) + 1)
 unfold pk
 rcases Nat.mod_two_eq_zero_or_one p with h | h
 ·have e : r * 64 + p = 2 * (32 * r + p / 2):=by omega
  rw [if_pos h,e]
  omega
 ·have e : r * 64 + p = 2 * (32 * r + p / 2) + 1:=by omega
  rw [if_neg (by omega),e]
  omega
theorem jSp {w : World} {b sd : Nat} {st : St} (h : Sk0 w b sd st) (r p : Nat) (hr : r < 4) (hp : p < 64) :
  Calls Tryz.prog 129 #[.pointer (some ⟨b,0,none⟩),.int .i64 r,.int .i64 p] w fun e w' => e = .returned (.int .i64 ((st.1.getD (r * 64 + p) 0 : Nat) : Int)) ∧ ∃ m,w' = w.drewN m:=by
 have hj : 32 * r + p / 2 < 128:=by omega
 have:=jZv (jJ0 st.1) h.2.2 r p hr hp (by rw [jMo _ _ hj];exact kDp h.1.le _)
 rwa [jMo _ _ hj,kF3 h.1.le] at this
def jGl (x : Nat) : Nat:=x / 2 &&& 119
def jEu (bs : List Nat) (k : Nat) : List Nat:=(bs.take k).map jGl ++ bs.drop k
theorem kO0 (x y : Nat) (hx : x ≤ 15) (hy : y ≤ 15) : jGl (x + 16 * y) = x / 2 + 16 * (y / 2):=by
 have : ∀ x,x < 16 → ∀ y,y < 16 → jGl (x + 16 * y) = x / 2 + 16 * (y / 2):=by decide
 exact this x (by omega) y (by omega)
theorem kE6 {C : List Nat} (hC : ∀ c ∈ C,c ≤ 15) : (jFe C).map jGl = jFe (C.map (· / 2)):=by
 unfold jFe
 rw [List.map_map]
 apply List.map_congr_left
 intro j _
 show jGl (pk C j) = _
 unfold pk
 rw [kO0 _ _ (jK8 hC _) (jK8 hC _),jXo,jXo]
theorem jTg (bs : List Nat) (k : Nat) : (jEu bs k).length = bs.length:=by simp [jEu];omega
theorem jZ2 (bs : List Nat) : jEu bs 0 = bs:=by simp [jEu]
theorem kDj (bs : List Nat) (k : Nat) (h : bs.length ≤ k) : jEu bs k = bs.map jGl:=by
 simp [jEu,List.take_of_length_le h,List.drop_of_length_le h]
theorem kAn (bs : List Nat) (k : Nat) (h : k < bs.length) : (jEu bs k).set k (jGl (bs.getD k 0)) = jEu bs (k + 1):=by
 unfold jEu
 have h1 : ((bs.take k).map jGl).length = k:=by simp;omega
 rw [List.set_append_right _ _ (by omega),h1,Nat.sub_self,List.drop_eq_getElem_cons h,List.set_cons_zero,List.take_succ_eq_append_getElem h,List.map_append,List.append_assoc]
 simp [List.getD,List.getElem?_eq_getElem h]
theorem kCm (bs : List Nat) (k j : Nat) (h : k ≤ j) (hj : j < bs.length) : (jEu bs k)[j]? = bs[j]?:=by
 unfold jEu
 rw [List.getElem?_append_right (by simp;omega)]
 simp only [List.length_map,List.length_take,List.getElem?_drop]
 congr 1
 omega
theorem kIk (cs : Array Value) (i : Nat) (v : Value) (hi : i < 32) (hv : cs[i]? = some v) (W : World) : (Instr.index 158 (.agg cs) (.int .i64 (i : Int))).run Tryz.prog W = .ok v W:=by
 have hb : (0 : Int) ≤ (i : Int) ∧ (i : Int) < 32:=by omega
 have ha : (isAgg 5).run Tryz.prog W = .ok false W:=by kernel_rfl
 have hs : (sizeOf 5).run Tryz.prog W = .ok 1 W:=by kernel_rfl
 simp [Instr.index,run_underlying Tryz.underlying158,asIntOf,hb,part,ha,hs,hv,Result.andThen]
 intro h32
 exact (Nat.not_lt_of_le h32 hi).elim
def jOu (bs : List Nat) (r : Nat) : List Value:=((bs.drop (32 * r)).take 32).map fun x => .int .u8 (x : Nat)
theorem jX0 {bs : List Nat} (hl : bs.length = 128) (r : Nat) (hr : r < 4) : (jOu bs r).length = 32:=by
 simp [jOu]
 omega
theorem jY8 {bs : List Nat} (hl : bs.length = 128) (r i : Nat) (hr : r < 4) (hi : i < 32) : (jOu bs r).toArray[i]? = some (.int .u8 (bs.getD (32 * r + i) 0 : Nat)):=by
 have h : 32 * r + i < bs.length:=by omega
 simp [jOu,hi,List.getElem?_drop,List.getElem?_eq_getElem h,List.getD]
theorem kC7 {w : World} {b sd age : Nat} {bs : List Nat} (r : Nat) (hl : bs.length = 128) (hr : r < 4) (h : Blk w b sd age (jEu bs (32 * r))) : w.rangeAt b (2 + 32 * r) (jOu bs r):=fun j v hv => by
 have hj : j < 32:=by
  have:=(List.getElem?_eq_some_iff.1 hv).1
  rwa [jX0 hl r hr] at this
 have h1:=jSw h (32 * r + j) (by rw [jTg];omega)
 have h2 : (jEu bs (32 * r)).getD (32 * r + j) 0 = bs.getD (32 * r + j) 0:=by
  simp only [List.getD,kCm bs (32 * r) (32 * r + j) (by omega) (by omega)]
 have h3:=jY8 hl r j hr hj
 rw [List.getElem?_toArray,hv] at h3
 rw [h3,← h2,Nat.add_assoc]
 exact h1
theorem kH0 (x : Nat) (h : x < 256) : bits .and .u8 ((x : Int) / 2) 119 = ((jGl x : Nat) : Int):=by
 have : ∀ x : Nat,x < 256 → bits .and .u8 ((x : Int) / 2) 119 = ((jGl x : Nat) : Int):=by decide +kernel
 exact this x h
theorem kC3 {bs : List Nat} (h : ∀ x ∈ bs,x < 256) (j : Nat) : bs.getD j 0 < 256:=by
 by_cases hq : j < bs.length
 ·simp only [List.getD,List.getElem?_eq_getElem hq,Option.getD_some]
  exact h _ (List.getElem_mem hq)
 ·simp [List.getD,List.getElem?_eq_none (Nat.le_of_not_lt hq)]
theorem jPi {w V : World} {b o : Nat} (h : w.grownBy V (some b)) (v : Value) : w.grownBy (V.setCell ⟨b,o,none⟩ v) (some b) :=
 ⟨h.1,h.2,h.3,Nat.le_trans h.4 (KeepsWalks.setCell V _ v).size,fun i hi hb => (Below.heap_setCell _ _ _ i (fun e => hb (by rw [e]))).trans (h.5 i hi hb)⟩
theorem kEn {w : World} {b sd age : Nat} {bs : List Nat} (hl : bs.length = 128) (hx : ∀ x ∈ bs,x < 256) (h : Blk w b sd age bs) :
  Calls Tryz.prog 131 #[.pointer (some ⟨b,0,none⟩)] w fun e w' => (∃ v,e = .returned v) ∧ Blk w' b sd 320 (bs.map jGl) ∧ w.grownBy w' (some b):=by
 have HL:=jAa hl
 have HX:=jAa hx
 have h0 : Blk w b sd age (jEu bs 0):=by rw [jZ2];exact h
 clear hl hx h
 go_enter Tryz.func131,Tryz.ntmps131
 go_wp2
 go_loopw [5] (fun i wr => ∃ r : Nat,r ≤ 4 ∧ i = .int .i64 r ∧ Blk wr b sd age (jEu bs (32 * r)) ∧ w.grownBy wr (some b)) (fun i _ => 4 - (intOf i).toNat)
 case atStart => exact ⟨0,by omega,rfl,h0,jDg _ _⟩
 case round =>
  clear h0
  obtain ⟨r,hr,rfl,hB,hg⟩:=hrel
  by_cases hlt : r < 4
  ·have hR:=jAa (kC7 r HL.out hlt hB)
   have hi : Hid ((Tryz.prog.info? 158).map (·.size) = some (jOu bs r).length):=by
    show _ = _
    rw [jX0 HL.out r hlt]
    kernel_rfl
   have h1:=jYg b r hlt
   have HV:=jAa (fun i (hi : i < 32) => kIk (jOu bs r).toArray i _ hi (jY8 HL.out r i hlt hi))
   generalize jOu bs r = cs at *
   go_wp2_with (refine wpList_load_mid rfl 158 _ rfl b _ rfl cs _ hR.out Tryz.underlying158 rfl hi.out ?_)
   clear hR hi
   go_loopw [14] (fun i wr2 => ∃ c : Nat,c ≤ 32 ∧ i = .int .i64 c ∧ Blk wr2 b sd age (jEu bs (32 * r + c)) ∧ w.grownBy wr2 (some b)) (fun i _ => 32 - (intOf i).toNat)
   case atStart => exact ⟨0,by omega,rfl,hB,hg⟩
   case round =>
    clear hB hg
    obtain ⟨c,hc,rfl,hB,hg⟩:=hrel
    by_cases hlt2 : c < 32
    ·have hix:=HV.out c hlt2
     have h2:=jTi b (2 + 32 * r) c hlt2
     have hE:=kH0 (bs.getD (32 * r + c) 0) (kC3 HX.out _)
     have hln : 32 * r + c < bs.length:=by rw [HL.out];omega
     have hfr:=jOh hB (2 + 32 * r + c)
     have hcl:=jSw hB (32 * r + c) (by rw [jTg];exact hln)
     have hN:=kBk hB (32 * r + c) (jGl (bs.getD (32 * r + c) 0))
     have hgN:=jPi hg (o:=2 + (32 * r + c)) (.int .u8 ((jGl (bs.getD (32 * r + c) 0) : Nat) : Int))
     rw [kAn bs _ hln] at hN
     rw [← Nat.add_assoc] at hN hgN hcl
     generalize jGl (bs.getD (32 * r + c) 0) = z at *
     generalize bs.getD (32 * r + c) 0 = x at *
     have HN:=jAa hN
     have HG:=jAa hgN
     clear hN hgN hln hB hg
     go_wp2
     go_round
     case rel => exact ⟨c + 1,by omega,by go_num,HN.out,HG.out⟩
     case measure => simp [intOf];omega
    ·obtain rfl : c = 32:=by omega
     go_wp2
     go_round
     case rel => exact ⟨r + 1,by omega,by go_num,hB,hg⟩
     case measure => simp [intOf];omega
  ·obtain rfl : r = 4:=by omega
   rw [kDj bs (32 * 4) (by rw [HL.out];decide)] at hB
   have hfr:=jOh hB 1
   have hcl:=jT0 hB
   have HN:=jAa (jSd hB 320)
   have HG:=jAa (jPi hg (o:=1) (.int .i64 ((320 : Nat) : Int)))
   go_wp2
   go_end0
   exact ⟨⟨_,rfl⟩,HN.out,HG.out⟩
end
section
open Go.RowKit Go.Shelf
attribute [local go_sem] Oper.semAt_some
theorem jPo (n b : Nat) (s : ByteArray) (w : World) :
  CallsIn Fence.wide n Tryz.prog 128 #[.pointer (some ⟨b,0,none⟩),.string s] w fun e w' =>
   e = .returned (.func (.func 161) #[] #[.pointer (some ⟨w.heap.size,0,none⟩),.pointer (some ⟨w.heap.size + 1,0,none⟩)]) ∧
   w' = (w.alloc (.cells #[.pointer (some ⟨b,0,none⟩)] 113)).alloc (.cells #[.string s] 9):=by
 refine callsIn_of_wp Tryz.func128 rfl trivial ?_ rfl
 simp only [Tryz.ntmps128,List.size_toArray,List.length_cons,List.length_nil,Nat.reduceAdd,Nat.reduceSub,Array.replicate_succ,Array.replicate_zero,List.push_toArray,List.append_toArray,List.nil_append,List.cons_append]
 gi_wp2
 go_ret
 exact ⟨rfl,rfl⟩
def jF0 (k : Nat) : Nat:=k % 4
def jNr (sd : Nat) (l : List UInt8) (k : Nat) : Nat:=jNa sd l k % 64
def plKV (sd : Nat) (l : List UInt8) (k : Nat) : Array Value:=#[.int .i64 (jF0 k : Nat),.int .i64 (jNr sd l (jF0 k) : Nat)]
theorem kHt (sd : Nat) (l : List UInt8) (k : Nat) : jFi (jNa sd l k) 64 = ((jNr sd l k : Nat) : Int):=by
 unfold jFi jNr
 rw [if_neg (by decide)]
 omega
theorem kAd (l Bf Bs b sd : Nat) (s : ByteArray) (hs : s.size ≤ 140737488351232) (J Jx : List Nat → World → Prop) (W : World) (hJ : OwnFrom W.heap.size J) (hJx : OwnFrom W.heap.size Jx)
  (hY : ∀ pre x V,J pre V → pre.length < 4 → YieldAt Fence.wide (5 - 1) Tryz.prog l (plKV sd s.data.toList x) V fun e V' =>
   jCa W.heap.size V V' ∧ ((e = .returned (.bool true) ∧ J (pre ++ [x]) V') ∨ (e = .returned (.bool false) ∧ Jx (pre ++ [x]) V')))
  (cf : W.cell? ⟨Bf,0,none⟩ = some (.pointer (some ⟨b,0,none⟩))) (cs : W.cell? ⟨Bs,0,none⟩ = some (.string s)) (cd : W.cell? ⟨b,0,none⟩ = some (.int .u64 sd)) (h0 : J [] W) :
  CallsIn Fence.wide 5 Tryz.prog 161 #[.func (.yield l) #[] #[],.pointer (some ⟨Bf,0,none⟩),.pointer (some ⟨Bs,0,none⟩)] W fun e W' => (∃ v,e = .returned v) ∧
   ((∃ ys,ys = List.range 4 ∧ J ys W') ∨ (∃ pre,pre <+: List.range 4 ∧ Jx pre W')):=by
 refine callsIn_of_wp_marks Tryz.func161 rfl trivial ?_ rfl
 simp only [Tryz.ntmps161,List.size_toArray,List.length_cons,List.length_nil,Nat.reduceAdd,Nat.reduceSub,Array.replicate_succ,Array.replicate_zero,List.push_toArray,List.append_toArray,List.nil_append,List.cons_append]
 gi_wp2
 obtain ⟨W1,hW1,bg,sz1,_,cl1,own1⟩:=box1 W (.func (.yield l) #[] #[]) 191
 have cf1:=cl1 _ _ cf
 have cs1:=cl1 _ _ cs
 have cd1:=cl1 _ _ cd
 have j1:=own1 hJ h0
 rw [hW1]
 clear hW1 cl1 own1 cf cs cd h0
 refine Code.wpIn_mono (jWk.imp (b:={ tmps:=#[.func (.yield l) #[] #[],.pointer (some ⟨Bf,0,none⟩),.pointer (some ⟨Bs,0,none⟩),.pointer (some ⟨W.heap.size,0,none⟩),undef,undef,.pointer (some ⟨b,0,none⟩),.pointer (some ⟨b,0,none⟩),.pointer (some ⟨b,0,none⟩),.int .u64 sd,.string s,.func (.func 190) #[] #[.pointer (some ⟨W.heap.size + 1 + 1 + 1,0,none⟩),.pointer (some ⟨W.heap.size + 1,0,none⟩),.pointer (some ⟨W.heap.size + 1 + 1,0,none⟩)],undef,undef,undef,undef,undef,undef,undef,undef],defers:=[] })
  (v:=(((W1.alloc (.cells #[.int .u64 sd] 22)).alloc (.cells #[.string s] 9)).alloc (.cells #[.int .i64 4] 3)).drew) ?rest) ?region
 case region =>
  gi_region_with (refine ⟨trivial,?_⟩;gi_at_call 160;refine (jPd (5 - 1) sd s 4 _).mono ?_;rintro e w1 ⟨rfl,rfl⟩)
  all_goals exact ⟨rfl,rfl⟩
 obtain ⟨W2,hW2,bd,bs,bm,sz2,bk2,own2⟩:=kIr W1 sd s 4
 have bg2:=bk2 bg
 have j2:=own2 hJ j1
 gi_wp2
 rw [hW2]
 clear hW2 bk2 own2 cf1 cs1 cd1 j1 bg
 rw [sz1] at bd bs bm sz2
 refine wpIn_rangeFunc_ownG rfl (by decide) (gf:=190) (lb:=#[.pointer (some ⟨W.heap.size + 1 + 1 + 1,0,none⟩),.pointer (some ⟨W.heap.size + 1,0,none⟩),.pointer (some ⟨W.heap.size + 1 + 1,0,none⟩)]) rfl trivial (enters_of Tryz.func190 (by kernel_rfl) rfl)
  (jL5 (5 - 1) (by decide) _ _ _ sd s hs 4 (by decide) (fun x => jO2 sd s.data.toList (jF0 x)) (fun k hk => by rw [show jF0 k = k from Nat.mod_eq_of_lt (show k < 4 from hk)]) W2 (by omega) (by omega) (by omega) bm.cell bd.cell bs.cell) jQs (jQl (by omega) (by omega)) (Below.refl _ _) (fun _ => rfl)
  (fun pre V => J pre V ∧ (Boxed V W.heap.size 191 (.func (.yield l) #[] #[]) ∧ (Boxed V (W.heap.size + 1) 22 (.int .u64 sd) ∧ Boxed V (W.heap.size + 1 + 1) 9 (.string s))))
  (fun c pre V => c = .ret ∧ Jx pre V)
  (OwnFrom.and (jJ2 hJ (by omega)) (OwnFrom.and (Own.from (boxed_own _ _ (fun _ => _)) _) (OwnFrom.and (Own.from (boxed_own _ _ (fun _ => _)) _) (Own.from (boxed_own _ _ (fun _ => _)) _))))
  (fun c => OwnFrom.and (ownFrom_pure _ _) (jJ2 hJx (by omega)))
  ⟨j2,bg2,bd,bs⟩ ?a1 ?assign ?body ?done ?stop
 case assign =>
  intro l2 x V K hK
  unfold jO2
  gi_wp2
  exact hK
 case body =>
  rintro l2 pre x V ⟨hj,hg,hd,hss⟩ hlt
  have hcg:=hg.cell
  obtain ⟨fn,tmps,assign,body,hy,hR⟩:=jQ0 2 (hY pre x V.drew (jRm hJ hj) hlt)
  unfold plKV at hy
  have E:=jAa (kHt sd s.data.toList (jF0 x))
  have hh : jNa sd s.data.toList (jF0 x) < 18446744073709551616:=jP8 _ _
  generalize jNa sd s.data.toList (jF0 x) = h at *
  generalize jF0 x = x4 at *
  have hmix : Tryz.prog.follows .mixedOrders = true:=by kernel_rfl
  have hR2:=hR.mono (R':=fun e V' => ∃ q : Bool,e = .returned (.bool q) ∧ Hid (jCa W.heap.size V.drew V' ∧ ((q = true ∧ J (pre ++ [x]) V') ∨ (q = false ∧ Jx (pre ++ [x]) V')))) (by
   rintro e V' ⟨h1,⟨rfl,h2⟩ | ⟨rfl,h2⟩⟩
   ·exact ⟨true,rfl,h1,.inl ⟨rfl,h2⟩⟩
   ·exact ⟨false,rfl,h1,.inr ⟨rfl,h2⟩⟩)
  clear hR hY
  gi_wp2
  gi_region_with_o (first
   | (refine ⟨trivial,?_⟩;gi_at_call 156;refine (CallsIn.inRound l2 (callsIn_wide.2 (jKs h hh 64 (by decide) (by decide) _))).mono ?_;rintro e w' ⟨rfl,rfl⟩;rw [E.out])
   | (refine hR2.mono ?_;rintro e V' ⟨q,rfl,HQ⟩))
  all_goals
   obtain ⟨hsn,hq⟩:=HQ.out
   have hsv:=(jCa.drew W.heap.size V).trans hsn
   clear hsn hy hR2 HQ
   rcases hq with ⟨rfl,hj'⟩ | ⟨rfl,hj'⟩
   ·gi_wp2
    exact ⟨hsv.keeps (by omega),jPp hd hss (hsv.boxed (by omega) hd) (hsv.boxed (by omega) hss),hj',hsv.boxed (by omega) hg,hsv.boxed (by omega) hd,hsv.boxed (by omega) hss⟩
   ·gi_wp2
    exact ⟨hsv.keeps (by omega),rfl,hj'⟩
 case done =>
  rintro D ys V hD rfl ⟨hj,hg,hd,hss⟩ hK
  gi_wp2
  refine ⟨by simp,.inl ⟨_,_,rfl,run_takeDeferred hK,?_⟩⟩
  exact ⟨_,results_none rfl _ _ _,⟨_,rfl⟩,.inl ⟨_,rfl,jI3 hJ _ hj (by omega) hK rfl⟩⟩
 case stop =>
  rintro D c pre V hD hpre ⟨rfl,hj⟩ hK
  gi_wp2
  refine ⟨by simp,.inl ⟨_,_,rfl,run_takeDeferred hK,?_⟩⟩
  exact ⟨_,results_none rfl _ _ _,⟨_,rfl⟩,.inr ⟨_,hpre,jI3 hJx _ hj (by omega) hK rfl⟩⟩
theorem jQi (Bf Bs b sd : Nat) (s : ByteArray) (hs : s.size ≤ 140737488351232) (w : World) (cf : w.cell? ⟨Bf,0,none⟩ = some (.pointer (some ⟨b,0,none⟩))) (cs : w.cell? ⟨Bs,0,none⟩ = some (.string s)) (cd : w.cell? ⟨b,0,none⟩ = some (.int .u64 sd)) :
  jYb Fence.wide 5 Tryz.prog 161 #[.pointer (some ⟨Bf,0,none⟩),.pointer (some ⟨Bs,0,none⟩)] (plKV sd s.data.toList) (fun ys => ys = List.range 4) (fun pre => pre <+: List.range 4) 4 w:=fun l J Jx W hW hJ hJx hY h0 =>
 kAd l Bf Bs b sd s hs J Jx W hJ hJx hY ((hW.cell (p:=⟨Bf,0,none⟩) (block_lt_of_cell cf)).trans cf) ((hW.cell (p:=⟨Bs,0,none⟩) (block_lt_of_cell cs)).trans cs) ((hW.cell (p:=⟨b,0,none⟩) (block_lt_of_cell cd)).trans cd) h0
end
section
open Go.RowKit Go.Shelf
attribute [local go_sem] Oper.semAt_some
theorem kNp (w : World) (v : Value) (s : ByteArray) : ∃ V,(((w.alloc (.cells #[v] 113)).alloc (.cells #[.int .i64 15] 3)).alloc (.cells #[v] 113)).alloc (.cells #[.string s] 9) = V ∧
  Boxed V w.heap.size 113 v ∧ Boxed V (w.heap.size + 1) 3 (.int .i64 15) ∧ Boxed V (w.heap.size + 1 + 1) 113 v ∧ Boxed V (w.heap.size + 1 + 1 + 1) 9 (.string s) ∧ V.heap.size = w.heap.size + 4 ∧ w.grownBy V none:=by
 refine ⟨_,rfl,?_⟩
 have b0:=Boxed.new w 113 v
 have b1:=Boxed.new (w.alloc (.cells #[v] 113)) 3 (.int .i64 15)
 have b2:=Boxed.new ((w.alloc (.cells #[v] 113)).alloc (.cells #[.int .i64 15] 3)) 113 v
 have b3:=Boxed.new (((w.alloc (.cells #[v] 113)).alloc (.cells #[.int .i64 15] 3)).alloc (.cells #[v] 113)) 9 (.string s)
 simp only [World.size_alloc] at b1 b2 b3
 exact ⟨((b0.alloc _).alloc _).alloc _,(b1.alloc _).alloc _,b2.alloc _,b3,by simp only [World.size_alloc],jAt (jAt (jAt (World.grownBy_alloc _ _ _) (World.grownBy_alloc _ _ _)) (World.grownBy_alloc _ _ _)) (World.grownBy_alloc _ _ _)⟩
def jFd (sd : Nat) (l : List UInt8) (x : Nat) : Nat:=plc sd l (jF0 x)
theorem kA9 (x : Nat) : jF0 x < 4:=Nat.mod_lt _ (by decide)
theorem kBp (sd : Nat) (l : List UInt8) (x : Nat) : jNr sd l x < 64:=Nat.mod_lt _ (by decide)
theorem plc_eq (sd : Nat) (l : List UInt8) (x : Nat) : jF0 x * 64 + jNr sd l (jF0 x) = jFd sd l x:=rfl
theorem kJs (C : List Nat) (sd : Nat) (l : List UInt8) (pre : List Nat) (x : Nat) : cnt C ((pre ++ [x]).map (jFd sd l)) = min (cnt C (pre.map (jFd sd l))) (C.getD (jFd sd l x) 0):=by
 simp [cnt]
theorem kMu {w : World} {b sd : Nat} {st : St} (hF : Sk0 w b sd st) (s : ByteArray) (hs : s.size ≤ 140737488351232) : Calls Tryz.prog 228 #[.pointer (some ⟨b,0,none⟩),.string s] w fun e w' => e = .returned (.int .i64 (cnt st.1 (jDu sd s.data.toList))) ∧ Sk0 w' b sd st ∧ w.grownBy w' none:=by
 refine (callsIn_wide (n:=6)).1 ?_
 have hlt:=jWe hF
 have HS : Hid (cnt st.1 ((List.range 4).map (jFd sd s.data.toList)) = cnt st.1 (jDu sd s.data.toList)):=rfl
 refine callsIn_of_wp_marks Tryz.func228 rfl trivial ?_ rfl
 simp only [Tryz.ntmps228,List.size_toArray,List.length_cons,List.length_nil,Nat.reduceAdd,Nat.reduceSub,Array.replicate_succ,Array.replicate_zero,List.push_toArray,List.append_toArray,List.nil_append,List.cons_append]
 gi_wp2_with (refine ⟨trivial,?_⟩;gi_at_call 128;refine (jPo (6 - 1) b s _).mono ?_;rintro e w1 ⟨rfl,rfl⟩)
 obtain ⟨W0,hW0,bf,br,bf2,bs,sz0,hg0⟩:=kNp w (.pointer (some ⟨b,0,none⟩)) s
 rw [hW0]
 clear hW0
 have hF0:=jI2 hF (hg0.block b hlt (by simp))
 have hRB : w.heap.size + 1 < W0.heap.size:=by omega
 clear sz0
 refine jMr rfl (by decide) (gf:=161) (lb:=#[.pointer (some ⟨w.heap.size + 1 + 1,0,none⟩),.pointer (some ⟨w.heap.size + 1 + 1 + 1,0,none⟩)]) rfl trivial (enters_of Tryz.func161 (by kernel_rfl) rfl)
  (jQi _ _ b sd s (Nat.le_trans hs (by decide)) W0 bf2.cell bs.cell (jW3 hF0.2.2)) (Below.refl _ _) (fun _ => rfl)
  (fun (pre : List Nat) V => Boxed V w.heap.size 113 (.pointer (some ⟨b,0,none⟩)) ∧ (Boxed V (w.heap.size + 1) 3 (.int .i64 (cnt st.1 (pre.map (jFd sd s.data.toList)) : Nat)) ∧ w.grownBy V none))
  (fun _ _ _ => False)
  (OwnFrom.and (Own.from (boxed_own _ _ (fun _ => _)) _) (OwnFrom.and (Own.from (boxed_own _ _ (fun (pre : List Nat) => .int .i64 (cnt st.1 (pre.map (jFd sd s.data.toList)) : Nat))) _) (jKy hg0.size)))
  (fun _ _ _ _ _ hs _ _ => hs)
  ⟨bf,br,hg0⟩ ?a1 ?assign ?body ?done ?stop
 case assign =>
  intro l2 x V K hK
  unfold plKV
  gi_wp2
  exact hK
 case body =>
  rintro l2 pre x V ⟨hbf,hbr,hg⟩ hlen
  have hFV:=jI2 hF (hg.block b hlt (by simp))
  have hcf:=hbf.cell
  have hcr:=hbr.cell
  have hfr:=hbr.frozen
  have hmix : Tryz.prog.follows .mixedOrders = true:=by kernel_rfl
  have hwf : ∀ f,Fence.wide.fn f:=fun _ => trivial
  have HC : ∀ k : Nat,CallsIn Fence.wide (4 - 1) Tryz.prog 129 #[.pointer (some ⟨b,0,none⟩),.int .i64 (jF0 x : Nat),.int .i64 (jNr sd s.data.toList (jF0 x) : Nat)] (V.drewN k) fun e w' => e = .returned (.int .i64 ((st.1.getD (jFd sd s.data.toList x) 0 : Nat) : Int)) ∧ ∃ m,w' = (V.drewN k).drewN m:=fun k => callsIn_wide.2 (jSp (w:=V.drewN k) (jI2 hFV rfl) (jF0 x) (jNr sd s.data.toList (jF0 x)) (kA9 x) (kBp _ _ _))
  have HM:=jAa (kJs st.1 sd s.data.toList pre x)
  generalize cnt st.1 (pre.map (jFd sd s.data.toList)) = n at *
  generalize st.1.getD (jFd sd s.data.toList x) 0 = c at *
  generalize jNr sd s.data.toList (jF0 x) = p at *
  generalize hr4 : jF0 x = r at *
  clear hFV hr4
  gi_wp2
  refine jHc 6 _ l2 rfl rfl (by kernel_rfl) (by kernel_rfl) ?_
  simp only [List.take_succ_cons,List.take_zero]
  repeat (gi_big_quiet_step ((gi_at_call 129;exact CallsIn.quiet_of (HC _))))
  refine wpQuietIn_nil ?_
  rintro _ ⟨nq,rfl⟩
  go_simp
  gi_wp2
  ·refine ⟨(jDr _ V nq).trans (jI9 _ _ hRB),jLd hbf (Nat.ne_of_lt (Nat.lt_succ_self _)) _,?_,jG6 (jIz hg nq) (grownBy_setCell' _ _ _) (Nat.le_succ _)⟩
   rw [HM.out,Nat.min_eq_right (Nat.le_of_lt h)]
   exact Boxed.set _ (show Boxed (V.drewN nq) _ _ _ from hbr)
  ·refine ⟨(jDr _ V nq).trans (jI9 _ _ hRB),jLd hbf (Nat.ne_of_lt (Nat.lt_succ_self _)) _,?_,jG6 (jIz hg nq) (grownBy_setCell' _ _ _) (Nat.le_succ _)⟩
   rw [HM.out,Nat.min_eq_left (Nat.le_of_not_lt h)]
   exact Boxed.set _ (show Boxed (V.drewN nq) _ _ _ from hbr)
 case done =>
  rintro D ys V hD rfl ⟨hbf,hbr,hg⟩ hK
  have hcr:=hbr.cell
  rw [HS.out] at hcr
  have hg2:=jG6 hg (grownBy_putObj' V D (.deferred none)) (Nat.le_trans hg0.size hD)
  obtain ⟨n,hn⟩ : ∃ n,n = cnt st.1 (jDu sd s.data.toList):=⟨_,rfl⟩
  rw [← hn] at hcr
  have HN:=jAa hn
  clear hn
  gi_wp2
  refine ⟨by simp,.inl ⟨_,_,rfl,run_takeDeferred hK,?_⟩⟩
  exact ⟨_,results_tmp rfl _ _ _,by rw [← HN.out];rfl,jI2 hF (hg2.block b hlt (by simp)),hg2⟩
 case stop =>
  rintro D c pre V _ _ h _
  exact h.elim
end
section
open Go.RowKit Go.Shelf
attribute [local go_sem] Oper.semAt_some
def jPt (p : Nat) : Nat:=if p % 2 = 0 then 1 else 16
theorem kKl {w : World} {b sd a : Nat} {C : List Nat} (h : Sk0 w b sd (C,a)) (r p : Nat) (hr : r < 4) (hp : p < 64) (hc : C.getD (r * 64 + p) 0 < 15) : ∃ y : Nat,w.cell? ⟨b,2 + 32 * r + p / 2,none⟩ = some (.int .u8 y) ∧ w.frozen? ⟨b,2 + 32 * r + p / 2,none⟩ = false ∧ y + jPt p < 256 ∧
  ∀ k : Nat,Sk0 ((w.drewN k).setCell ⟨b,2 + 32 * r + p / 2,none⟩ (.int .u8 ((y + jPt p : Nat) : Int))) b sd (inc C (r * 64 + p),a):=by
 obtain ⟨h1,h2,h3⟩:=h
 have hj : 32 * r + p / 2 < 128:=by omega
 have hg : r * 64 + p < 256:=by omega
 have e1 : (r * 64 + p) / 2 = 32 * r + p / 2:=by omega
 have e2 : (if (r * 64 + p) % 2 = 0 then 1 else 16) = jPt p:=by
  unfold jPt
  have : (r * 64 + p) % 2 = p % 2:=by omega
  rw [this]
 have hn:=kF3 (C:=C) h1.le r p
 have hlt:=kDp (C:=C) h1.le (32 * r + p / 2)
 refine ⟨pk C (32 * r + p / 2),?_,jOh h3 _,?_,fun k => ⟨⟨?_,?_,h1.age⟩,h2,?_⟩⟩
 ·have:=jSw h3 (32 * r + p / 2) (by rw [jJ0];exact hj)
  rw [jMo _ _ hj,← Nat.add_assoc] at this
  exact this
 ·rw [← hn] at hc
  unfold jPt
  rcases Nat.mod_two_eq_zero_or_one p with h | h
  ·rw [if_pos h] at hc ⊢
   omega
  ·rw [if_neg (by omega)] at hc ⊢
   omega
 ·exact (kBq _ _).trans h1.len
 ·exact kFo _ _ h1.le
 ·have:=kBk (w:=w.drewN k) (jNu h3 rfl) (32 * r + p / 2) (pk C (32 * r + p / 2) + jPt p)
  rw [← Nat.add_assoc] at this
  show Blk _ b sd a (jFe (inc C (r * 64 + p)))
  rw [kJr h1.len _ hg hc,e1,e2]
  exact this
theorem kFb (C : List Nat) (sd : Nat) (l : List UInt8) (pre : List Nat) (x : Nat) : jGd C ((pre ++ [x]).map (jFd sd l)) = inc (jGd C (pre.map (jFd sd l))) (jFd sd l x):=by
 simp [jGd]
theorem own_sk {β : Type} {B b sd : Nat} (f : β → St) (h : b < B) : OwnFrom B (fun (s : β) V => Sk0 V b sd (f s)):=fun s W W' row hs hg hr =>
 jI2 hs (hg.block b (jWe hs) (fun e => by have:=(hr b e.symm).1;omega))
theorem kOc (w : World) (v : Value) (s : ByteArray) : ∃ V,((w.alloc (.cells #[v] 113)).alloc (.cells #[v] 113)).alloc (.cells #[.string s] 9) = V ∧
  Boxed V w.heap.size 113 v ∧ Boxed V (w.heap.size + 1) 113 v ∧ Boxed V (w.heap.size + 1 + 1) 9 (.string s) ∧ w.grownBy V none:=by
 refine ⟨_,rfl,?_⟩
 have b0:=Boxed.new w 113 v
 have b1:=Boxed.new (w.alloc (.cells #[v] 113)) 113 v
 have b2:=Boxed.new ((w.alloc (.cells #[v] 113)).alloc (.cells #[v] 113)) 9 (.string s)
 simp only [World.size_alloc] at b1 b2
 exact ⟨(b0.alloc _).alloc _,b1.alloc _,b2,jAt (jAt (World.grownBy_alloc _ _ _) (World.grownBy_alloc _ _ _)) (World.grownBy_alloc _ _ _)⟩
theorem kN1 {C : List Nat} (h : ∀ c ∈ C,c ≤ 15) : ∀ x ∈ jFe C,x < 256:=fun x hx => by
 obtain ⟨j,_,rfl⟩:=List.mem_map.1 hx
 exact kDp h j
theorem kHm (sd : Nat) (st : St) (l : List UInt8) (hh : jDh st = true) (h : jLl st) : jFe (addK sd st l).1 = (jFe (jGd st.1 (jDu sd l))).map jGl ∧ (addK sd st l).2 = 320:=by
 unfold addK
 rw [if_pos hh]
 exact ⟨(kE6 (jNc _ _ h.le)).symm,rfl⟩
theorem kCe (sd : Nat) (st : St) (l : List UInt8) (hh : jDh st = false) : addK sd st l = (jGd st.1 (jDu sd l),st.2 + 1):=by
 unfold addK
 rw [if_neg (by rw [hh];decide)]
theorem sk_add {w : World} {b sd : Nat} {st : St} (hF : Sk0 w b sd st) (s : ByteArray) (hs : s.size ≤ 140737488351232) : Calls Tryz.prog 91 #[.pointer (some ⟨b,0,none⟩),.string s] w fun e w' => e = .returned (.bool (jDh st)) ∧ Sk0 w' b sd (addK sd st s.data.toList) ∧ w.grownBy w' (some b):=by
 refine (callsIn_wide (n:=6)).1 ?_
 have hlt:=jWe hF
 have HS : Hid (jGd st.1 ((List.range 4).map (jFd sd s.data.toList)) = jGd st.1 (jDu sd s.data.toList)):=rfl
 refine callsIn_of_wp_marks Tryz.func91 rfl trivial ?_ rfl
 simp only [Tryz.ntmps91,List.size_toArray,List.length_cons,List.length_nil,Nat.reduceAdd,Nat.reduceSub,Array.replicate_succ,Array.replicate_zero,List.push_toArray,List.append_toArray,List.nil_append,List.cons_append]
 gi_wp2_with (refine ⟨trivial,?_⟩;gi_at_call 128;refine (jPo (6 - 1) b s _).mono ?_;rintro e w1 ⟨rfl,rfl⟩)
 obtain ⟨W0,hW0,bf,bf2,bs,hg0⟩:=kOc w (.pointer (some ⟨b,0,none⟩)) s
 rw [hW0]
 clear hW0
 have hF0:=jI2 hF (hg0.block b hlt (by simp))
 have hbB:=Nat.lt_of_lt_of_le hlt hg0.size
 have hne : w.heap.size ≠ b:=Nat.ne_of_gt hlt
 refine jMr rfl (by decide) (gf:=161) (lb:=#[.pointer (some ⟨w.heap.size + 1,0,none⟩),.pointer (some ⟨w.heap.size + 1 + 1,0,none⟩)]) rfl trivial (enters_of Tryz.func161 (by kernel_rfl) rfl)
  (jQi _ _ b sd s (Nat.le_trans hs (by decide)) W0 bf2.cell bs.cell (jW3 hF0.2.2)) (Below.refl _ _) (fun _ => rfl)
  (fun (pre : List Nat) V => Boxed V w.heap.size 113 (.pointer (some ⟨b,0,none⟩)) ∧ (Sk0 V b sd (jGd st.1 (pre.map (jFd sd s.data.toList)),st.2) ∧ w.grownBy V (some b)))
  (fun _ _ _ => False)
  (OwnFrom.and (Own.from (boxed_own _ _ (fun _ => _)) _) (OwnFrom.and (own_sk (fun (pre : List Nat) => (jGd st.1 (pre.map (jFd sd s.data.toList)),st.2)) hbB) (jKy hg0.size)))
  (fun _ _ _ _ _ hs _ _ => hs)
  ⟨bf,hF0,kIh hg0 _⟩ ?a1 ?assign ?body ?done ?stop
 case assign =>
  intro l2 x V K hK
  unfold plKV
  gi_wp2
  exact hK
 case body =>
  rintro l2 pre x V ⟨hbf,hfv,hg⟩ hlen
  have hcf:=hbf.cell
  have hp:=kBp sd s.data.toList (jF0 x)
  have hr:=kA9 x
  have HI:=jAa (kFb st.1 sd s.data.toList pre x)
  have HP:=jAa (plc_eq sd s.data.toList x)
  generalize jGd st.1 (pre.map (jFd sd s.data.toList)) = C at *
  generalize jFd sd s.data.toList x = g at *
  generalize jNr sd s.data.toList (jF0 x) = p at *
  generalize jF0 x = r at *
  have HC:=jAa (callsIn_wide (n:=4 - 1).2 (jSp hfv r p hr hp))
  rw [HP.out] at HC
  have hwf : ∀ f,Fence.wide.fn f:=fun _ => trivial
  have hmix : Tryz.prog.follows .mixedOrders = true:=by kernel_rfl
  by_cases hc : C.getD g 0 < 15
  ·obtain ⟨y,hcy,hfy,hy,hnew⟩:=kKl hfv r p hr hp (by rw [HP.out];exact hc)
   obtain ⟨hq,hqt,hqw,hq8⟩:=jYv p hp
   have h1:=jYg b r hr
   have h2:=jTi b (2 + 32 * r) _ hq8
   have hsh:=jVa p hp
   have hup : jPt p = if p % 2 = 0 then 1 else 16:=rfl
   have hm2:=Nat.mod_lt p (show 0 < 2 by decide)
   generalize jPt p = u at *
   generalize p % 2 = m2 at *
   generalize p / 2 = q at *
   have HN:=jAa hnew
   have hci : ((C.getD g 0 : Nat) : Int) < 15:=by omega
   generalize C.getD g 0 = c at *
   obtain rfl | rfl : m2 = 0 ∨ m2 = 1:=by omega
   ·obtain rfl : u = 1:=hup
    have HD : ∀ (W : World) (k : Nat),CallsIn Fence.wide (4 - 1) Tryz.prog 130 #[.int .i64 p] (W.drewN k) fun e w' => e = .returned (.int .i64 0) ∧ w' = W.drewN k:=fun W k => (callsIn_wide.2 (hsh _)).mono fun e w' h => ⟨h.1,h.2.symm⟩
    have E : IntKind.u8.wrap ((y : Int) + 1) = ((y + 1 : Nat) : Int):=by rw [IntKind.wrap_u8];omega
    clear hm2 hsh hnew hc hq8 hr hp hlen hy hfv
    gi_wp2_with (gi_at_call 129;refine (CallsIn.inRound l2 HC.out).mono ?_;clear HC;rintro e w' ⟨rfl,m,rfl⟩)
    have hcf2 : (V.drewN m).cell? ⟨w.heap.size,0,none⟩ = _:=hcf
    have hcy2 : (V.drewN m).cell? ⟨b,2 + 32 * r + q,none⟩ = _:=hcy
    have hfy2 : (V.drewN m).frozen? ⟨b,2 + 32 * r + q,none⟩ = _:=hfy
    generalize hV2 : V.drewN m = V2 at *
    refine jHc 17 _ l2 rfl rfl (by kernel_rfl) (by kernel_rfl) ?_
    simp only [List.take_succ_cons,List.take_zero]
    repeat (gi_big_quiet_step ((gi_at_call 130;exact CallsIn.quiet_of_same (HD _ _))))
    refine wpQuietIn_nil ?_
    rintro _ ⟨nq,rfl⟩
    go_simp
    gi_wp2
    subst hV2
    have hnw:=HN.out (m + nq)
    rw [← World.drewN_drewN,HP.out,← HI.out] at hnw
    exact ⟨(jDr _ V m).trans ((jDr _ _ nq).trans (jI9 _ _ hbB)),jLd (show Boxed (V.drewN m) _ _ _ from hbf) hne _,hnw,jXm (jIz hg m) _⟩
   ·obtain rfl : u = 16:=hup
    have HD : ∀ (W : World) (k : Nat),CallsIn Fence.wide (4 - 1) Tryz.prog 130 #[.int .i64 p] (W.drewN k) fun e w' => e = .returned (.int .i64 4) ∧ w' = W.drewN k:=fun W k => (callsIn_wide.2 (hsh _)).mono fun e w' h => ⟨h.1,h.2.symm⟩
    have E : IntKind.u8.wrap ((y : Int) + 16) = ((y + 16 : Nat) : Int):=by rw [IntKind.wrap_u8];omega
    clear hm2 hsh hnew hc hq8 hr hp hlen hy hfv
    gi_wp2_with (gi_at_call 129;refine (CallsIn.inRound l2 HC.out).mono ?_;clear HC;rintro e w' ⟨rfl,m,rfl⟩)
    have hcf2 : (V.drewN m).cell? ⟨w.heap.size,0,none⟩ = _:=hcf
    have hcy2 : (V.drewN m).cell? ⟨b,2 + 32 * r + q,none⟩ = _:=hcy
    have hfy2 : (V.drewN m).frozen? ⟨b,2 + 32 * r + q,none⟩ = _:=hfy
    generalize hV2 : V.drewN m = V2 at *
    refine jHc 17 _ l2 rfl rfl (by kernel_rfl) (by kernel_rfl) ?_
    simp only [List.take_succ_cons,List.take_zero]
    repeat (gi_big_quiet_step ((gi_at_call 130;exact CallsIn.quiet_of_same (HD _ _))))
    refine wpQuietIn_nil ?_
    rintro _ ⟨nq,rfl⟩
    go_simp
    gi_wp2
    subst hV2
    have hnw:=HN.out (m + nq)
    rw [← World.drewN_drewN,HP.out,← HI.out] at hnw
    exact ⟨(jDr _ V m).trans ((jDr _ _ nq).trans (jI9 _ _ hbB)),jLd (show Boxed (V.drewN m) _ _ _ from hbf) hne _,hnw,jXm (jIz hg m) _⟩
  ·have HK:=jAa (kG3 (C:=C) g hc)
   have hci : ¬ ((C.getD g 0 : Nat) : Int) < 15:=by omega
   generalize C.getD g 0 = c at *
   clear hc hr hp hlen
   gi_wp2_with (gi_at_call 129;refine (CallsIn.inRound l2 HC.out).mono ?_;clear HC;rintro e w' ⟨rfl,m,rfl⟩)
   refine ⟨jDr _ V m,hbf,?_,jIz hg m⟩
   rw [HI.out,HK.out]
   exact jI2 hfv rfl
 case done =>
  rintro D ys V hD rfl ⟨hbv,hfv,hg⟩ hK
  rw [HS.out] at hfv
  have hDb : b ≠ D:=Nat.ne_of_lt (Nat.lt_of_lt_of_le hbB hD)
  have hgd:=hfv.1
  have hB:=hfv.2.2
  have ha:=hF.1.age
  have hcf:=hbv.cell
  have hca:=jT0 hB
  have hfa:=jOh hB 1
  have hB2:=jSd hB (st.2 + 1)
  have hg2:=jPi hg (o:=1) (.int .i64 ((st.2 + 1 : Nat) : Int))
  have hK2:=(Below.heap_setCell V ⟨b,1,none⟩ (.int .i64 ((st.2 + 1 : Nat) : Int)) D (fun e => hDb e.symm)).trans hK
  have hcf2 : (V.setCell ⟨b,1,none⟩ (.int .i64 ((st.2 + 1 : Nat) : Int))).cell? ⟨w.heap.size,0,none⟩ = some (.pointer (some ⟨b,0,none⟩)):=(World.cell?_of_block (w:=V) (Below.heap_setCell V ⟨b,1,none⟩ (.int .i64 ((st.2 + 1 : Nat) : Int)) w.heap.size (fun e => hne e))).trans hcf
  have hca2:=jT0 hB2
  have E : wrap64 ((st.2 : Int) + 1) = ((st.2 + 1 : Nat) : Int):=by unfold wrap64;omega
  have E2 : ((st.2 + 1 : Nat) : Int) = (st.2 : Int) + 1:=by omega
  rw [E2] at hB2 hg2 hK2
  clear E2
  have HB:=jAa hB2
  have HG:=jAa hg2
  have HX:=jAa hgd
  have HL:=jAa hfv.2.1
  have HW:=jAa hK2
  clear hB hB2 hg2 hgd hfv hg ha hbv hK2
  by_cases hh : 640 ≤ st.2 + 1
  ·have hi : ¬ ((st.2 + 1 : Nat) : Int) < 640:=by omega
   have HH : Hid (jDh st = true):=by show jDh st = true;simp [jDh,hh]
   have HV:=jAa (kEn (w:=V.setCell ⟨b,1,none⟩ (.int .i64 ((st.2 : Int) + 1))) (jJ0 _) (kN1 HX.out.le) HB.out)
   have HA:=jAa (kHm sd st s.data.toList HH.out hF.1)
   gi_wp2_with (refine ⟨trivial,?_⟩;gi_at_call 131;refine (callsIn_wide.2 HV.out).mono ?_;rintro e w3 ⟨⟨v,rfl⟩,hB3,hg3⟩)
   have hK3:=(hg3.block D (Array.getElem?_eq_some_iff.1 HW.out).1 (fun e => hDb (Option.some.inj e).symm)).trans HW.out
   have hg4:=jG6 (jAt HG.out hg3) (grownBy_putObj' w3 D (.deferred none)) (Nat.le_trans hg0.size hD)
   refine ⟨by simp,.inl ⟨_,_,rfl,run_takeDeferred hK3,?_⟩⟩
   exact ⟨_,results_tmp rfl _ _ _,by rw [HH.out];rfl,⟨jMl hF.1 _ _,HL.out,jNu (by rw [HA.out.1,HA.out.2];exact hB3) (World.putObj_heap_other hDb)⟩,hg4⟩
  ·have hi : ((st.2 + 1 : Nat) : Int) < 640:=by omega
   have HH : Hid (jDh st = false):=by show jDh st = false;simp [jDh,hh]
   have HA:=jAa (kCe sd st s.data.toList HH.out)
   clear hh
   gi_wp2
   have hg4:=jG6 HG.out (grownBy_putObj' _ D (.deferred none)) (Nat.le_trans hg0.size hD)
   refine ⟨by simp,.inl ⟨_,_,rfl,run_takeDeferred HW.out,?_⟩⟩
   exact ⟨_,results_tmp rfl _ _ _,by rw [HH.out];rfl,⟨jMl hF.1 _ _,HL.out,jNu (by rw [HA.out];exact HB.out) (World.putObj_heap_other hDb)⟩,hg4⟩
 case stop =>
  rintro D c pre V _ _ h _
  exact h.elim
theorem sk_new (sd : Nat) (h : sd < 18446744073709551616) (w : World) : Calls Tryz.prog 50 #[.int .u64 sd] w fun e w' => ∃ b,e = .returned (.pointer (some ⟨b,0,none⟩)) ∧ w.heap.size ≤ b ∧ Sk0 w' b sd jOf ∧ w.grownBy w' none:=by
 refine (jV1 sd w).mono ?_
 rintro e w' ⟨rfl,rfl⟩
 exact ⟨_,rfl,Nat.le_refl _,⟨jSq,h,heap_alloc_new w _⟩,World.grownBy_alloc w _ none⟩
theorem kCj : jEi Sk0 where
 lt:=jWe
 good:=kOr
 keep:=jI2
 new:=sk_new
 add:=sk_add
 count:=kMu
end
end Go.Proofs.YtkfeafmpaodagaaGreatDoor
