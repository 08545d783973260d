/- What the document's own Class and Bytes answer. Conditions: none. Chunks as cells, and what is appended of them. Conditions: none. What the document's own slab answers: Used, Has, New. Conditions: at most 10000 chunks in each list. What the document's own slab does: New, Fits, Free. Conditions: at most 9000 chunks in each list. What the document's own slab does: New, Fits, Take. Conditions: at most 9000 chunks in each list. What Take of the document's own slab does. Conditions: at most 9000 chunks in each list. -/
import Derived.Test.YtkfeafmpaodagaaGreatDoorG11Joined
import Derived.Test.YtkfeafmpaodagaaGreatDoorG10Joined
import Derived.Test.YtkfeafmpaodagaaGreatDoorG00Joined
import Derived.Maps.AppendAt
import Derived.Laws.OwnMore
import Derived.RegionTactic
import Derived.BigQuiet
import Derived.Deep.RegionHeldLaw
import Derived.Deep.RegionLaw
import Derived.Laws.ResultCell
import Derived.Deep.CutBlock
import Derived.Deep.CutRange
namespace Go.Proofs.YtkfeafmpaodagaaGreatDoor
set_option maxHeartbeats 16000000
section
open Go.RowKit
set_option maxRecDepth 100000
theorem kIt (j : Nat) (h : j < 6) : jAu (j : Int) = ((64 * 2 ^ j : Nat) : Int):=by
 have : j = 0 ∨ j = 1 ∨ j = 2 ∨ j = 3 ∨ j = 4 ∨ j = 5:=by omega
 rcases this with rfl | rfl | rfl | rfl | rfl | rfl <;> rfl
theorem kG4 (k : Int) (h : k < 0 ∨ 6 ≤ k) : jAu k = 0:=by
 unfold jAu
 repeat' split
 all_goals omega
theorem kFd (size : Int) (j : Nat) (hj : j < 6) (h1 : size ≤ jAu j) (h2 : ∀ i,i < j → jAu (i : Nat) < size) : jA1 size = j ∧ jBo size = 0:=by
 have b0:=h2 0
 have b1:=h2 1
 have b2:=h2 2
 have b3:=h2 3
 have b4:=h2 4
 have : j = 0 ∨ j = 1 ∨ j = 2 ∨ j = 3 ∨ j = 4 ∨ j = 5:=by omega
 unfold jA1 jBo
 rcases this with rfl | rfl | rfl | rfl | rfl | rfl <;> simp [jAu] at h1 b0 b1 b2 b3 b4 <;> (constructor <;> (repeat' split) <;> omega)
theorem kKd (size : Int) (h2 : ∀ i,i < 6 → jAu (i : Nat) < size) : jA1 size = 0 ∧ jBo size = 4:=by
 have b5:=h2 5 (by decide)
 simp [jAu] at b5
 unfold jA1 jBo
 constructor <;> (repeat' split) <;> omega
theorem kCk (j : Nat) (h : j < 6) : 64 * 2 ^ j ≤ 2048:=by
 have : j = 0 ∨ j = 1 ∨ j = 2 ∨ j = 3 ∨ j = 4 ∨ j = 5:=by omega
 rcases this with rfl | rfl | rfl | rfl | rfl | rfl <;> decide
theorem jDc (k : Int) (w : World) : Calls Tryz.prog 85 #[.int .i64 k] w fun e w' => e = .returned (.int .i64 (jAu k)) ∧ w = w':=by
 by_cases hk : 0 ≤ k ∧ k < 6
 ·obtain ⟨hk0,hk6⟩:=hk
  obtain ⟨n,rfl⟩:=Int.eq_ofNat_of_zero_le hk0
  have hn : n < 6:=by omega
  have HP:=jAa (kIt n hn)
  go_enter Tryz.func85,Tryz.ntmps85
  go_wp2
  go_loop [3,4] (fun m i => ∃ j : Nat,j ≤ n ∧ i = .int .i64 j ∧ m = .int .i64 ((64 * 2 ^ j : Nat) : Int)) (fun _ i => n - (intOf i).toNat)
  case atStart => exact ⟨0,Nat.zero_le _,rfl,rfl⟩
  case round =>
   obtain ⟨j,hj,rfl,rfl⟩:=hrel
   by_cases hlt : j < n
   ·have hle:=kCk j (by omega)
    have HS : Hid ((64 * 2 ^ (j + 1) : Nat) = 2 * (64 * 2 ^ j)):=by show _ = _;rw [Nat.pow_succ];omega
    generalize 64 * 2 ^ j = m at *
    go_wp2
    go_round
    case rel => exact ⟨j + 1,by omega,by go_num,by rw [HS.out];go_num⟩
    case measure => simp [intOf];omega
   ·obtain rfl : j = n:=by omega
    go_wp2
    go_ret
    exact ⟨by rw [HP.out];rfl,rfl⟩
 ·have hout : k < 0 ∨ 6 ≤ k:=by omega
  have HB:=jAa (kG4 k hout)
  clear hk
  rcases hout with h | h
  ·go_enter Tryz.func85,Tryz.ntmps85
   go_wp2
   go_ret
   exact ⟨by rw [HB.out];rfl,rfl⟩
  ·go_enter Tryz.func85,Tryz.ntmps85
   go_wp2
   go_ret
   exact ⟨by rw [HB.out];rfl,rfl⟩
theorem jDt (size : Int) (w : World) : Calls Tryz.prog 109 #[.int .i64 size] w fun e w' => e = .returned (.tuple #[.int .i64 (jA1 size),.int .i64 (jBo size)]) ∧ w = w':=by
 go_enter Tryz.func109,Tryz.ntmps109
 go_wp2
 go_loop [4] (fun i => ∃ j : Nat,j ≤ 6 ∧ i = .int .i64 j ∧ Hid (∀ i,i < j → jAu (i : Nat) < size)) (fun i => 6 - (intOf i).toNat)
 case atStart => exact ⟨0,by omega,rfl,fun i hi => (Nat.not_lt_zero _ hi).elim⟩
 case round =>
  obtain ⟨j,hj,rfl,HJ⟩:=hrel
  by_cases hlt : j < 6
  ·by_cases hs : size ≤ jAu j
   ·have HF:=jAa (kFd size j hlt hs HJ.out)
    go_wp2_with (go_at_call 85;refine (jDc _ _).mono ?_;rintro e w1 ⟨rfl,rfl⟩)
    go_ret2
    exact ⟨by rw [HF.out.1,HF.out.2];rfl,rfl⟩
   ·have hs2 : jAu j < size:=by omega
    clear hs
    have HS : Hid (∀ i,i < j + 1 → jAu (i : Nat) < size):=fun i hi => by
     by_cases e : i = j
     ·rw [e];exact hs2
     ·exact HJ.out i (by omega)
    go_wp2_with (go_at_call 85;refine (jDc _ _).mono ?_;rintro e w1 ⟨rfl,rfl⟩)
    go_round
    case rel => exact ⟨j + 1,by omega,by go_num,HS⟩
    case measure => simp [intOf];omega
  ·obtain rfl : j = 6:=by omega
   have HN:=jAa (kKd size HJ.out)
   go_wp2
   go_ret2
   exact ⟨by rw [HN.out.1,HN.out.2];rfl,rfl⟩
end
section
open Go.RowKit
set_option maxRecDepth 100000
theorem jIb {w : World} {k : Nat} {t : TypeId} {x y : Value} (h : w.heap[k]? = some (.cells #[x,y] t (0,0))) : w.cell? ⟨k,0,none⟩ = some x ∧ w.cell? ⟨k,1,none⟩ = some y:=by
 simp [World.cell?,h]
def jBl (l : List Ck) : List Value:=l.flatMap fun c => [.int .i64 c.1,.int .i64 c.2]
theorem jE2 : ∀ l : List Ck,(jBl l).length = l.length * 2
 | [] => rfl
 | c :: l => by
  show ([_,_] ++ jBl l).length = _
  rw [List.length_append,jE2 l,List.length_cons]
  simp
  omega
theorem jXw (l : List Ck) (c : Ck) : jBl (l ++ [c]) = jBl l ++ [.int .i64 c.1,.int .i64 c.2]:=by simp [jBl]
theorem jRy : ∀ (l : List Ck) (i : Nat) (h : i < l.length),(jBl l)[i * 2]? = some (.int .i64 l[i].1) ∧ (jBl l)[i * 2 + 1]? = some (.int .i64 l[i].2)
 | c :: l,0,_ => ⟨rfl,rfl⟩
 | c :: l,i + 1,h => by
  have ih:=jRy l i (by simpa using h)
  have e : jBl (c :: l) = .int .i64 c.1 :: .int .i64 c.2 :: jBl l:=rfl
  rw [e,show (i + 1) * 2 = i * 2 + 1 + 1 by omega]
  exact ih
theorem jSm : (Tryz.prog.info? 92).map (fun i => (i.zero,i.size,i.bytes)) = some (some (.agg #[.int .i64 0,.int .i64 0]),2,16):=by kernel_rfl
theorem jXj {st : Sb} {size : Int} (h : ¬ jB1 st size = 0) : takeS st size = st:=by
 unfold takeS
 rw [if_neg h]
theorem cell_two_new (w : World) (x y : Value) (t : TypeId) : ∀ j u,[x,y][j]? = some u → (w.alloc (.cells #[x,y] t)).cell? ((⟨w.heap.size,0,none⟩ : Addr).add j) = some u:=by
 intro j u h
 have hh : (w.alloc (.cells #[x,y] t)).heap[w.heap.size]? = some (.cells #[x,y] t):=heap_alloc_new w _
 have hadd : (⟨w.heap.size,0,none⟩ : Addr).add j = ⟨w.heap.size,j,none⟩:=by unfold Addr.add;split <;> simp_all
 rw [hadd,cell_of_row _ _ _ _ _ _ hh]
 simpa using h
theorem jKn {w : World} {base g cap n : Nat} {l : List Ck} (h : w.ownsRow base 92 2 (.slice (some ⟨g,0,none⟩) n cap) n (jBl l)) (i : Nat) (hi : i < l.length) :
  w.cell? ⟨g,i * 2,none⟩ = some (.int .i64 l[i].1) ∧ w.cell? ⟨g,i * 2 + 1,none⟩ = some (.int .i64 l[i].2):=by
 have hl:=h.1
 rw [jE2] at hl
 exact ⟨(h.cellAt (i * 2) (by omega)).trans (jRy l i hi).1,(h.cellAt (i * 2 + 1) (by omega)).trans (jRy l i hi).2⟩
theorem kCu (l : List Ck) (k : Nat) : (jBl l).take (k * 2) ++ (jBl l).drop ((k + 1) * 2) = jBl (l.eraseIdx k):=by
 have tk : ∀ (l : List Ck) (k : Nat),(jBl l).take (k * 2) = jBl (l.take k):=by
  intro l
  induction l with
  | nil => intro k;simp [jBl]
  | cons c l ih =>
   intro k
   cases k with
   | zero => simp [jBl]
   | succ k =>
    show (.int .i64 c.1 :: .int .i64 c.2 :: jBl l).take ((k + 1) * 2) = .int .i64 c.1 :: .int .i64 c.2 :: jBl (l.take k)
    rw [show (k + 1) * 2 = k * 2 + 1 + 1 by omega,List.take_succ_cons,List.take_succ_cons,ih]
 have dr : ∀ (l : List Ck) (k : Nat),(jBl l).drop (k * 2) = jBl (l.drop k):=by
  intro l
  induction l with
  | nil => intro k;simp [jBl]
  | cons c l ih =>
   intro k
   cases k with
   | zero => simp
   | succ k =>
    show (.int .i64 c.1 :: .int .i64 c.2 :: jBl l).drop ((k + 1) * 2) = jBl (l.drop k)
    rw [show (k + 1) * 2 = k * 2 + 1 + 1 by omega,List.drop_succ_cons,List.drop_succ_cons,ih]
 rw [tk,dr,List.eraseIdx_eq_take_drop_succ]
 simp [jBl]
theorem jUe {l : List Ck} (hn : l.Nodup) (k : Nat) (h : k < l.length) : l.erase l[k] = l.eraseIdx k:=by
 induction l generalizing k with
 | nil => cases h
 | cons c l ih =>
  cases k with
  | zero => simp
  | succ k =>
   rw [List.nodup_cons] at hn
   have hk : k < l.length:=by simpa using h
   have hne : ¬ c = l[k]:=fun e => hn.1 (by rw [e];exact List.getElem_mem hk)
   rw [List.getElem_cons_succ,List.erase_cons_tail (by simpa using hne),ih hn.2 k hk]
   rfl
theorem jNx (l : List Ck) : ∀ u ∈ jBl l,u.oneCell' = true:=by
 intro u hu
 obtain ⟨c,_,hc⟩:=List.mem_flatMap.1 hu
 simp at hc
 rcases hc with rfl | rfl <;> rfl
theorem jVb {w : World} {base g n cap : Nat} {l : List Ck} (h : w.ownsRow base 92 2 (.slice (some ⟨g,0,none⟩) n cap) n (jBl l)) (k : Nat) (hk : k < l.length) :
  ∀ j u,((jBl l).take (k * 2))[j]? = some u → w.cell? ((⟨g,0,none⟩ : Addr).add j) = some u:=by
 intro j u hu
 have hl:=h.1
 rw [jE2] at hl
 have hj : j < k * 2:=by
  have:=(List.getElem?_eq_some_iff.1 hu).1
  rw [List.length_take] at this
  omega
 rw [List.getElem?_take,if_pos hj] at hu
 have hadd : (⟨g,0,none⟩ : Addr).add j = ⟨g,j,none⟩:=by unfold Addr.add;split <;> simp_all
 rw [hadd,h.cellAt j (by omega)]
 exact hu
theorem kFm {w : World} {base g n cap : Nat} {l : List Ck} (h : w.ownsRow base 92 2 (.slice (some ⟨g,0,none⟩) n cap) n (jBl l)) (k : Nat) (hk : k < l.length) :
  ∀ j u,((jBl l).drop ((k + 1) * 2))[j]? = some u → w.cell? ((⟨g,(k + 1) * 2,none⟩ : Addr).add j) = some u:=by
 intro j u hu
 have hl:=h.1
 rw [jE2] at hl
 have hj : j < l.length * 2 - (k + 1) * 2:=by
  have:=(List.getElem?_eq_some_iff.1 hu).1
  rw [List.length_drop,jE2] at this
  omega
 rw [List.getElem?_drop] at hu
 have hadd : (⟨g,(k + 1) * 2,none⟩ : Addr).add j = ⟨g,(k + 1) * 2 + j,none⟩:=by unfold Addr.add;split <;> simp_all
 rw [hadd,h.cellAt _ (by omega)]
 exact hu
theorem jUp {W w8 w9 : World} {v1 v2 : Value} (g1 : W.grownBy w8 (Value.slice none 0 0).ownBlock) (a1 : v1.ownBlock = (Value.slice none 0 0).ownBlock ∨ v1.ownBlock = some W.heap.size) (g2 : w8.grownBy w9 v1.ownBlock) (a2 : v2.ownBlock = v1.ownBlock ∨ v2.ownBlock = some w8.heap.size) :
  W.grownBy w9 none ∧ ∀ j,v2.ownBlock = some j → W.heap.size ≤ j:=by
 have e0 : (Value.slice none 0 0).ownBlock = none:=rfl
 rw [e0] at g1 a1
 have hs:=g1.size
 rcases a1 with e1 | e1
 ·rw [e1] at g2 a2
  refine ⟨jAt g1 g2,fun j hj => ?_⟩
  rcases a2 with e2 | e2
  ·rw [e2] at hj;cases hj
  ·rw [e2] at hj;cases hj;exact hs
 ·rw [e1] at g2 a2
  refine ⟨jG6 g1 g2 (Nat.le_refl _),fun j hj => ?_⟩
  rcases a2 with e2 | e2
  ·rw [e2] at hj;cases hj;exact Nat.le_refl _
  ·rw [e2] at hj;cases hj;exact hs
theorem jT8 {w : World} {base g n cap : Nat} {l : List Ck} (h : w.ownsRow base 92 2 (.slice (some ⟨g,0,none⟩) n cap) n (jBl l)) (k : Nat) (hk : k < l.length) :
  ∃ ad : Addr,(if cap = k + 1 then some (⟨g,0,none⟩ : Addr) else some ⟨g,(k + 1) * 2,none⟩) = some ad ∧ ∀ w' : World,w.grownBy w' none → ∀ j u,((jBl l).drop ((k + 1) * 2))[j]? = some u → w'.cell? (ad.add j) = some u:=by
 have hl:=h.1
 rw [jE2] at hl
 have hc:=jGe h
 by_cases hce : cap = k + 1
 ·refine ⟨⟨g,0,none⟩,by rw [if_pos hce],fun w' _ j u hu => ?_⟩
  have:=(List.getElem?_eq_some_iff.1 hu).1
  rw [List.length_drop,jE2] at this
  omega
 ·refine ⟨⟨g,(k + 1) * 2,none⟩,by rw [if_neg hce],fun w' hg j u hu => ?_⟩
  have h1:=kFm h k hk j u hu
  have h2:=block_lt_of_cell h1
  have hadd : (⟨g,(k + 1) * 2,none⟩ : Addr).add j = ⟨g,(k + 1) * 2 + j,none⟩:=by unfold Addr.add;split <;> simp_all
  rw [hadd] at h1 h2 ⊢
  rw [World.cell?_of_block (w:=w) (hg.block g h2 (by simp))]
  exact h1
end
section
open Go.RowKit
set_option maxRecDepth 100000
def jNz (l : List Nat) : Array Value:=(l.map fun m : Nat => Value.int .i64 (m : Int)).toArray
structure RSl (n0 : Nat) (w : World) (h : Nat) (st : Sb) (vi vg : Value) (gm : Nat) : Prop where
 head : w.heap[h]? = some (.cells #[.int .i64 st.bud,vi,vg,.slice (some ⟨gm,0,none⟩) 6 6] 119 (0,0))
 inn : w.ownsRow n0 92 2 vi st.inn.length (jBl st.inn)
 gone : w.ownsRow n0 92 2 vg st.gone.length (jBl st.gone)
 made : w.heap[gm]? = some (.cells (jNz st.made) 3 (0,0))
 len : st.made.length = 6
 ih : vi.ownBlock ≠ some h
 im : vi.ownBlock ≠ some gm
 gh : vg.ownBlock ≠ some h
 gg : vg.ownBlock ≠ some gm
 ig : ∀ k,vi.ownBlock = some k → vg.ownBlock ≠ some k
 hm : h ≠ gm
 h0 : n0 ≤ h
 m0 : n0 ≤ gm
def jD9 (h gm : Nat) (vi vg : Value) : Nat → Prop:=fun k => k = h ∨ k = gm ∨ vi.ownBlock = some k ∨ vg.ownBlock = some k
section
variable {n0 h gm : Nat} {w w' : World} {st : Sb} {vi vg : Value}
theorem RSl.same (R : RSl n0 w h st vi vg gm) (hs : ∀ k,jD9 h gm vi vg k → w'.heap[k]? = w.heap[k]?) : RSl n0 w' h st vi vg gm :=
 { R with
  head:=(hs h (.inl rfl)).trans R.head
  inn:=jGy R.inn fun k hk => hs k (.inr (.inr (.inl hk)))
  gone:=jGy R.gone fun k hk => hs k (.inr (.inr (.inr hk)))
  made:=(hs gm (.inr (.inl rfl))).trans R.made }
theorem RSl.lt (R : RSl n0 w h st vi vg gm) : ∀ k,jD9 h gm vi vg k → k < w.heap.size:=by
 rintro k (rfl | rfl | hk | hk)
 ·exact (Array.getElem?_eq_some_iff.1 R.head).1
 ·exact (Array.getElem?_eq_some_iff.1 R.made).1
 ·exact (R.inn.lt k hk).2
 ·exact (R.gone.lt k hk).2
theorem RSl.kept (R : RSl n0 w h st vi vg gm) (hg : w.grownBy w' none) : RSl n0 w' h st vi vg gm:=R.same fun k hk => hg.block k (R.lt k hk) (by simp)
theorem RSl.budC (R : RSl n0 w h st vi vg gm) : w.cell? ⟨h,0,none⟩ = some (.int .i64 st.bud):=by simp [World.cell?,R.head]
theorem RSl.innC (R : RSl n0 w h st vi vg gm) : w.cell? ⟨h,1,none⟩ = some vi:=by simp [World.cell?,R.head]
theorem RSl.goneC (R : RSl n0 w h st vi vg gm) : w.cell? ⟨h,2,none⟩ = some vg:=by simp [World.cell?,R.head]
theorem RSl.madeC (R : RSl n0 w h st vi vg gm) : w.cell? ⟨h,3,none⟩ = some (.slice (some ⟨gm,0,none⟩) 6 6):=by simp [World.cell?,R.head]
theorem RSl.free (R : RSl n0 w h st vi vg gm) (j : Nat) : w.frozen? ⟨h,j,none⟩ = false:=by simp [World.frozen?,R.head]
end
theorem jO1 {n0 h gm : Nat} {w : World} {st : Sb} {vi vg : Value} (R : RSl n0 w h st vi vg gm) (hs : Small st 10000) : Calls Tryz.prog 48 #[.pointer (some ⟨h,0,none⟩)] w fun e w' => e = .returned (.int .i64 (jBn st)) ∧ w = w':=by
 have hc1:=R.innC
 have hn:=hs.inn
 obtain ⟨pv,cv,rfl⟩:=jAr R.inn
 have HU : Hid (jBn st = jDp st.inn):=rfl
 go_enter Tryz.func48,Tryz.ntmps48
 go_wp2
 go_loop [3,4] (fun m i => ∃ j : Nat,j ≤ st.inn.length ∧ i = .int .i64 j ∧ m = .int .i64 (jDp (st.inn.take j))) (fun _ i => st.inn.length - (intOf i).toNat)
 case atStart => exact ⟨0,Nat.zero_le _,rfl,rfl⟩
 case round =>
  obtain ⟨j,hj,rfl,rfl⟩:=hrel
  by_cases hjn : j < st.inn.length
  ·obtain ⟨g1,cv3,e4⟩:=jCk R.inn (by omega)
   cases e4
   obtain ⟨⟨u,v⟩,huv⟩ : ∃ c,st.inn[j] = c:=⟨_,rfl⟩
   obtain ⟨c0,c1⟩:=jKn R.inn j hjn
   rw [huv] at c0 c1
   have hS : jDp (st.inn.take (j + 1)) = jDp (st.inn.take j) + jAu u:=by
    rw [List.take_succ_eq_append_getElem hjn,jR1,huv,jRi]
   have l1:=jM0 (st.inn.take j)
   have l2:=jT1 (st.inn.take j)
   have l3 : (st.inn.take j).length ≤ j:=by rw [List.length_take];omega
   have l4:=jDk u
   have l5:=jGr u
   obtain ⟨bu,hbu⟩ : ∃ m,jAu u = m:=⟨_,rfl⟩
   rw [hbu] at hS l4 l5
   have HBU:=jAa hbu
   have HSS:=jAa hS
   generalize jDp (st.inn.take j) = sm at *
   have hw : wrap64 (sm + bu) = sm + bu:=by unfold wrap64;omega
   clear hbu hS huv
   go_wp2_with (go_at_call 85;refine (jDc u _).mono ?_;rintro e w8 ⟨he,rfl⟩;rw [HBU.out] at he;subst he)
   go_round
   case rel => exact ⟨j + 1,by omega,by go_num,by rw [HSS.out]⟩
   case measure => simp [intOf];omega
  ·obtain rfl : j = st.inn.length:=by omega
   rw [List.take_length]
   go_wp2
   go_ret
   exact ⟨by rw [HU.out];rfl,rfl⟩
end
section
open Go.RowKit
set_option maxRecDepth 100000
section
variable {n0 h gm : Nat} {w w1 : World} {st : Sb} {vi vg v' : Value} {tmp : Obj}
theorem jN7 {w : World} {h : Nat} {a b c d : Value} {t : TypeId} (hh : w.heap[h]? = some (.cells #[a,b,c,d] t (0,0))) (v : Value) : (w.setCell ⟨h,1,none⟩ v).heap[h]? = some (.cells #[a,v,c,d] t (0,0)) ∧ (w.setCell ⟨h,2,none⟩ v).heap[h]? = some (.cells #[a,b,v,d] t (0,0)) :=
 ⟨heap_setCell_same w h 1 #[a,b,c,d] t v hh,heap_setCell_same w h 2 #[a,b,c,d] t v hh⟩
theorem jHa {w : World} {n0 n h o : Nat} {e : TypeId} {u v : Value} {xs : List Value} (hr : w.ownsRow n0 e 2 u n xs) (hu : u.ownBlock ≠ some h) : (w.setCell ⟨h,o,none⟩ v).ownsRow n0 e 2 u n xs :=
 jGy hr fun k hk => heap_setCell_other _ _ _ _ (fun e => hu (by rw [hk,e]))
theorem RSl.setInn (R : RSl n0 w h st vi vg gm) (l : List Ck) (v : Value) (hr : w.ownsRow n0 92 2 v l.length (jBl l)) (hn : ∀ k,v.ownBlock = some k → ¬ (k = h ∨ k = gm ∨ vg.ownBlock = some k)) :
  RSl n0 (w.setCell ⟨h,1,none⟩ v) h ⟨st.bud,l,st.gone,st.made⟩ v vg gm :=
 have hv : v.ownBlock ≠ some h:=fun e => hn h e (.inl rfl)
 { head:=(jN7 R.head v).1,inn:=jHa hr hv,gone:=jHa R.gone R.gh,made:=(heap_setCell_other _ _ _ _ (fun e => R.hm e.symm)).trans R.made,len:=R.len,ih:=hv,im:=fun e => hn gm e (.inr (.inl rfl)),gh:=R.gh,gg:=R.gg,ig:=fun k hk hg => hn k hk (.inr (.inr hg)),hm:=R.hm,h0:=R.h0,m0:=R.m0 }
theorem RSl.setGone (R : RSl n0 w h st vi vg gm) (l : List Ck) (v : Value) (hr : w.ownsRow n0 92 2 v l.length (jBl l)) (hn : ∀ k,v.ownBlock = some k → ¬ (k = h ∨ k = gm ∨ vi.ownBlock = some k)) :
  RSl n0 (w.setCell ⟨h,2,none⟩ v) h ⟨st.bud,st.inn,l,st.made⟩ vi v gm :=
 have hv : v.ownBlock ≠ some h:=fun e => hn h e (.inl rfl)
 { head:=(jN7 R.head v).2,inn:=jHa R.inn R.ih,gone:=jHa hr hv,made:=(heap_setCell_other _ _ _ _ (fun e => R.hm e.symm)).trans R.made,len:=R.len,ih:=R.ih,im:=R.im,gh:=hv,gg:=fun e => hn gm e (.inr (.inl rfl)),ig:=fun k hk hg => hn k hg (.inr (.inr hk)),hm:=R.hm,h0:=R.h0,m0:=R.m0 }
theorem jXx (F : Nat → Prop) (w : World) (b o : Nat) (v : Value) (hF : F b) : Gr F w (w.setCell ⟨b,o,none⟩ v) :=
 ⟨rfl,rfl,rfl,Nat.le_of_eq (World.size_setCell _ _ _).symm,fun k _ hk => heap_setCell_other _ _ _ _ (fun e => hk (by rw [e];exact hF))⟩
theorem RSl.appGone (R : RSl n0 w h st vi vg gm) (x y : Int) (hown : w1.ownsRow n0 92 2 v' (st.gone.length + 1) (jBl st.gone ++ [.int .i64 x,.int .i64 y])) (hgrow : (w.alloc tmp).grownBy w1 vg.ownBlock) (hat : v'.ownBlock = vg.ownBlock ∨ v'.ownBlock = some (w.alloc tmp).heap.size) :
  w1.cell? ⟨h,2,none⟩ = some vg ∧ w1.frozen? ⟨h,2,none⟩ = false ∧ RSl n0 (w1.setCell ⟨h,2,none⟩ v') h ⟨st.bud,st.inn,st.gone ++ [(x,y)],st.made⟩ vi v' gm ∧ Gr (jD9 h gm vi vg) w (w1.setCell ⟨h,2,none⟩ v') ∧ (∀ k,jD9 h gm vi v' k → jD9 h gm vi vg k ∨ w.heap.size ≤ k):=by
 have hsa : (w.alloc tmp).heap.size = w.heap.size + 1:=World.size_alloc _ _
 have old : ∀ k,k < w.heap.size → vg.ownBlock ≠ some k → w1.heap[k]? = w.heap[k]?:=fun k hk hv => (hgrow.block k (by omega) (fun e => hv e.symm)).trans (Below.heap_alloc _ _ _ hk)
 have lh:=R.lt h (.inl rfl)
 have lm:=R.lt gm (.inr (.inl rfl))
 have hhead:=(old h lh R.gh).trans R.head
 have hmade:=(old gm lm R.gg).trans R.made
 have hinn : w1.ownsRow n0 92 2 vi st.inn.length (jBl st.inn):=jGy R.inn fun k hk => old k (R.lt k (.inr (.inr (.inl hk)))) (R.ig k hk)
 have hv : ∀ k,v'.ownBlock = some k → vg.ownBlock = some k ∨ w.heap.size ≤ k:=fun k hk => by
  rcases hat with e | e
  ·exact .inl (by rw [← e];exact hk)
  ·rw [e] at hk
   cases hk
   exact .inr (by omega)
 have hne : ∀ k,v'.ownBlock = some k → ¬ (k = h ∨ k = gm ∨ vi.ownBlock = some k):=fun k hk => by
  rcases hv k hk with e | e
  ·rintro (rfl | rfl | e2)
   ·exact R.gh e
   ·exact R.gg e
   ·exact R.ig k e2 e
  ·rintro (rfl | rfl | e2)
   ·omega
   ·omega
   ·have:=R.lt k (.inr (.inr (.inl e2)))
    omega
 have hvh : v'.ownBlock ≠ some h:=fun e => hne h e (.inl rfl)
 have hown2 : w1.ownsRow n0 92 2 v' (st.gone ++ [(x,y)]).length (jBl (st.gone ++ [(x,y)])):=by
  rw [List.length_append,jXw]
  exact hown
 refine ⟨by simp [World.cell?,hhead],by simp [World.frozen?,hhead],?_,?_,?_⟩
 ·exact { head:=(jN7 hhead v').2,inn:=jHa hinn R.ih,gone:=jHa hown2 hvh,made:=(heap_setCell_other _ _ _ _ (fun e => R.hm e.symm)).trans hmade,len:=R.len,ih:=R.ih,im:=R.im,gh:=hvh,gg:=fun e => hne gm e (.inr (.inl rfl)),ig:=fun k hk hg => hne k hg (.inr (.inr hk)),hm:=R.hm,h0:=R.h0,m0:=R.m0 }
 ·refine ⟨hgrow.1,hgrow.2,hgrow.3,?_,fun k hk hr => ?_⟩
  ·have:=hgrow.4
   rw [World.size_setCell]
   omega
  ·rw [heap_setCell_other _ _ _ _ (fun e => hr (.inl e))]
   exact old k hk (fun e => hr (.inr (.inr (.inr e))))
 ·rintro k (e | e | e | e)
  ·exact .inl (.inl e)
  ·exact .inl (.inr (.inl e))
  ·exact .inl (.inr (.inr (.inl e)))
  ·exact (hv k e).elim (fun e => .inl (.inr (.inr (.inr e)))) .inr
end
theorem jHj {F G : Nat → Prop} {a b : World} (h : Gr F a b) (hF : ∀ k,F k → G k) : Gr G a b:=⟨h.os,h.tape,h.output,h.size,fun k hk hr => h.block k hk (fun hf => hr (hF k hf))⟩
theorem kB4 {F : Nat → Prop} {a b : World} (h : Gr F a.drew b) : Gr F a b:=⟨h.os,h.tape,h.output,h.size,h.block⟩
theorem jSt {w : World} {n0 j : Nat} {e : TypeId} {v : Value} {l : List Ck} (hj : j < l.length) (h : w.ownsRow n0 e 2 v (j + (l.length - (j + 1))) ([] ++ (jBl l).take (j * 2) ++ (jBl l).drop ((j + 1) * 2))) : w.ownsRow n0 e 2 v (l.eraseIdx j).length (jBl (l.eraseIdx j)):=by
 rw [← kCu,List.length_eraseIdx,if_pos hj,show l.length - 1 = j + (l.length - (j + 1)) by omega]
 exact h
theorem kE2 {n0 : Nat} {W : World} {o : Obj} (h : n0 ≤ W.heap.size) : n0 ≤ (W.alloc o).heap.size:=Nat.le_trans h (by rw [World.size_alloc];exact Nat.le_succ _)
set_option maxRecDepth 100000 in
theorem jVu {n0 h gm : Nat} {w : World} {st : Sb} {vi vg : Value} (R : RSl n0 w h st vi vg gm) (hG : jDo st) (hs : Small st 9000) (hn0 : n0 ≤ w.heap.size) (x y : Int) :
  Calls Tryz.prog 78 #[.pointer (some ⟨h,0,none⟩),.agg #[.int .i64 x,.int .i64 y]] w fun e w' => e = .returned (.int .i64 (jJc st (x,y))) ∧ ∃ vi' vg',RSl n0 w' h (jBj st (x,y)) vi' vg' gm ∧ Gr (jD9 h gm vi vg) w w' ∧ (∀ k,jD9 h gm vi' vg' k → jD9 h gm vi vg k ∨ w.heap.size ≤ k):=by
 have hn:=hs.inn
 have hgl:=hs.gone
 obtain ⟨i0,hi,hz0,hz1,hz2⟩:=info_parts jSm
 obtain ⟨pv,cv,rfl⟩:=jAr R.inn
 obtain ⟨pg,cg,rfl⟩:=jAr R.gone
 have hg0:=World.grownBy_alloc w (.cells #[.int .i64 x,.int .i64 y] 92) none
 have hbx:=heap_alloc_new w (.cells #[.int .i64 x,.int .i64 y] 92)
 go_enter Tryz.func78,Tryz.ntmps78
 go_wp2
 go_loopw [5] (fun i wr => ∃ j : Nat,j ≤ st.inn.length ∧ i = .int .i64 j ∧ Hid (∀ (i : Nat) (hi : i < st.inn.length),i < j → st.inn[i] ≠ (x,y)) ∧ w.grownBy wr none ∧ wr.heap[w.heap.size]? = some (.cells #[.int .i64 x,.int .i64 y] 92)) (fun i _ => st.inn.length - (intOf i).toNat)
 case atStart => exact ⟨0,Nat.zero_le _,rfl,fun i _ hi => (Nat.not_lt_zero _ hi).elim,hg0,hbx⟩
 case round =>
  clear hg0 hbx
  obtain ⟨j,hj,rfl,HJ,hg,hb⟩:=hrel
  have R1:=R.kept hg
  have hc1:=R1.innC
  obtain ⟨b0,b1⟩:=jIb hb
  by_cases hjn : j < st.inn.length
  ·obtain ⟨g1,cv3,e4⟩:=jCk R.inn (by omega)
   cases e4
   obtain ⟨⟨u,v⟩,huv⟩ : ∃ c,st.inn[j] = c:=⟨_,rfl⟩
   obtain ⟨c0,c1⟩:=jKn R1.inn j hjn
   rw [huv] at c0 c1
   have HUV:=jAa huv
   clear huv
   by_cases heq : u = x ∧ v = y
   ·obtain ⟨rfl,rfl⟩:=heq
    have hmem : (u,v) ∈ st.inn:=by rw [← HUV.out];exact List.getElem_mem hjn
    have HM : Hid (jJc st (u,v) = 0):=if_pos hmem
    have HFS : Hid (jBj st (u,v) = ⟨st.bud,st.inn.eraseIdx j,st.gone ++ [(u,v)],st.made⟩):=by
     show jBj st (u,v) = _
     unfold jBj
     rw [if_pos hmem]
     have:=jUe (List.nodup_append.1 hG.nodup).1 j hjn
     rw [HUV.out] at this
     rw [this]
    clear hmem
    go_wp2
    go_quiet (fail)
    have R2 : RSl n0 (wr.drewN nq) h st (.slice (some ⟨g1,0,none⟩) st.inn.length cv) (.slice pg st.gone.length cg) gm:=R1.same fun _ _ => rfl
    have hg2 : w.grownBy (wr.drewN nq) none:=⟨hg.1,hg.2,hg.3,hg.4,hg.5⟩
    have hb2 : (wr.drewN nq).heap[w.heap.size]? = some (.cells #[.int .i64 u,.int .i64 v] 92):=hb
    generalize wr.drewN nq = W at *
    clear R1 hc1 hg hb b0 b1 c0 c1
    have hc2:=R2.innC
    have hcv:=jGe R2.inn
    have hN1:=jVb R2.inn j hjn
    obtain ⟨ad,had,hN2⟩:=jT8 R2.inn j hjn
    have hl1 : ((jBl st.inn).take (j * 2)).length = j * 2:=by rw [List.length_take,jE2];omega
    have hl2 : ((jBl st.inn).drop ((j + 1) * 2)).length = (st.inn.length - (j + 1)) * 2:=by rw [List.length_drop,jE2];omega
    have hO1 : ∀ u ∈ (jBl st.inn).take (j * 2),u.oneCell' = true:=fun u hu => jNx _ u (List.mem_of_mem_take hu)
    have hO2 : ∀ u ∈ (jBl st.inn).drop ((j + 1) * 2),u.oneCell' = true:=fun u hu => jNx _ u (List.mem_of_mem_drop hu)
    have E0 : IntKind.i64.wrap ((j : Int) + 1) = (j : Int) + 1:=by
     simp [IntKind.wrap,IntKind.bits,IntKind.signed]
     omega
    have E1 : (0 : Int) ≤ (j : Int) + 1:=by omega
    have E2 : (j : Int) + 1 ≤ (st.inn.length : Int):=by omega
    have E3 : ((j : Int) + 1).toNat = j + 1:=by omega
    have hkc : j ≤ cv:=by omega
    have hk1 : j + 1 ≤ st.inn.length:=hjn
    have hbase : n0 ≤ W.heap.size:=Nat.le_trans hn0 hg2.size
    go_wp2_with (first
     | (at_builtin;refine wpList_append_own_at _ rfl _ _ 117 rfl n0 92 i0 (.agg #[.int .i64 0,.int .i64 0]) 2 16 Tryz.underlying117 hi hz0 hz1 hz2 rfl (by decide) (.slice none 0 0) 0 [] rfl (World.ownsRow_nil _ _ _ _) ⟨g1,0,none⟩ j cv ((jBl st.inn).take (j * 2)) rfl hl1 hN1 hO1 (by unfold maxLen;omega) (by omega) hbase ?_;intro v1 w8 hown1 hgrow1 _ hat1;have R8:=R2.kept hgrow1;have hc8:=R8.innC;have hN3:=hN2 w8 hgrow1)
     | (at_builtin;refine wpList_append_own_at _ rfl _ _ 117 rfl n0 92 i0 (.agg #[.int .i64 0,.int .i64 0]) 2 16 Tryz.underlying117 hi hz0 hz1 hz2 rfl (by decide) v1 _ _ rfl hown1 ad (st.inn.length - (j + 1)) (cv - (j + 1)) ((jBl st.inn).drop ((j + 1) * 2)) rfl hl2 hN3 hO2 (by unfold maxLen;omega) (by omega) (Nat.le_trans hbase hgrow1.size) ?_;intro v2 w9 hown2 hgrow2 _ hat2;obtain ⟨g9,n9⟩:=jUp hgrow1 hat1 hgrow2 hat2;rw [Nat.zero_add] at hown2;obtain ⟨p2,q2,rfl⟩:=jAr hown2;have R9:=R2.kept g9;have hc9:=R9.innC;have hf9:=R9.free 1))
    have hr9:=jSt hjn hown2
    have R10:=R9.setInn (st.inn.eraseIdx j) _ hr9 (fun k hk => by
     have h1:=n9 k hk
     rintro (e | e | e)
     ·exact Nat.not_lt_of_le h1 (by rw [e];exact R2.lt h (.inl rfl))
     ·exact Nat.not_lt_of_le h1 (by rw [e];exact R2.lt gm (.inr (.inl rfl)))
     ·exact Nat.not_lt_of_le h1 (R2.lt k (.inr (.inr (.inr e)))))
    have hbh : w.heap.size ≠ h:=fun e => Nat.lt_irrefl _ (by have:=R.lt h (.inl rfl);rw [← e] at this;exact this)
    have hb9:=(g9.block w.heap.size (Array.getElem?_eq_some_iff.1 hb2).1 (by simp)).trans hb2
    have hb10:=(heap_setCell_other w9 ⟨h,1,none⟩ _ (.slice p2 (j + (st.inn.length - (j + 1))) q2) hbh).trans hb9
    have hg10 : Gr (jD9 h gm (.slice (some ⟨g1,0,none⟩) st.inn.length cv) (.slice pg st.gone.length cg)) w (w9.setCell ⟨h,1,none⟩ (.slice p2 (j + (st.inn.length - (j + 1))) q2)):=(jHj (Gr.of (jAt hg2 g9)) (fun _ e => by cases e)).trans (jXx _ _ _ _ _ (.inl rfl))
    have hn10 : ∀ k,(Value.slice p2 (j + (st.inn.length - (j + 1))) q2).ownBlock = some k → w.heap.size ≤ k:=fun k hk => Nat.le_trans hg2.size (n9 k hk)
    generalize w9.setCell ⟨h,1,none⟩ (.slice p2 (j + (st.inn.length - (j + 1))) q2) = W10 at *
    clear hc9 hf9 R9 hc8 R8 hc2 hN1 hN2 hN3 hown1 hgrow1 hat1 hown2 hgrow2 hat2 hr9 hl1 hl2 hO1 hO2 E0 E1 E2 E3 had hb9 hb2 hg2 g9 R2
    have R11 : RSl n0 W10.drew h _ _ _ gm:=R10.same fun _ _ => rfl
    have hcg : W10.drew.cell? ⟨h,2,none⟩ = some (.slice pg st.gone.length cg):=R11.goneC
    obtain ⟨b0,b1⟩:=jIb (show W10.drew.heap[w.heap.size]? = _ from hb10)
    have hcg2 : (W10.alloc (.cells #[.int .i64 u,.int .i64 v] 92)).cell? ⟨h,2,none⟩ = some (.slice pg st.gone.length cg):=(World.cell?_of_block (w:=W10) (Below.heap_alloc _ _ _ (R10.lt h (.inl rfl)))).trans R10.goneC
    have HRow : Hid (W10.drew.ownsRow n0 92 2 (.slice pg st.gone.length cg) st.gone.length (jBl st.gone)):=R11.gone
    have hba : n0 ≤ W10.drew.heap.size:=Nat.le_trans hn0 hg10.size
    go_region_law (refine jFk _ 52 (by rfl) rfl _ _ 117 (by rfl) n0 92 i0 (.agg #[.int .i64 0,.int .i64 0]) 2 16 Tryz.underlying117 hi hz0 hz1 hz2 rfl (by decide) (.slice pg st.gone.length cg) _ _ (by rfl) (HRow.out.alloc _) ⟨_,0,none⟩ 1 1 [_,_] (by rfl) rfl (cell_two_new _ _ _ _) (by simp [Value.oneCell']) (by unfold maxLen;omega) (by omega) (kE2 hba) ?_;intro v3 w11 hown3 hgrow3 hat3;obtain ⟨p3,q3,rfl⟩:=jAr hown3;obtain ⟨k1,k2,R12,hg12,hn12⟩:=R11.appGone u v hown3 hgrow3 hat3)
    all_goals
     go_wp2
     go_ret
     refine ⟨by rw [HM.out];rfl,.slice p2 (j + (st.inn.length - (j + 1))) q2,.slice p3 (st.gone.length + 1) q3,?_,?_,?_⟩
     ·rw [HFS.out]
      exact R12
     ·exact hg10.then (kB4 hg12) (fun k hk hr => by
       rcases hr with e | e | e | e
       ·exact .inl e
       ·exact .inr (.inl e)
       ·exact (Nat.not_lt_of_le (hn10 k e) hk).elim
       ·exact .inr (.inr (.inr e)))
     ·intro k hr
      rcases hn12 k hr with (e | e | e | e) | e
      ·exact .inl (.inl e)
      ·exact .inl (.inr (.inl e))
      ·exact .inr (hn10 k e)
      ·exact .inl (.inr (.inr (.inr e)))
      ·exact .inr (Nat.le_trans hg10.size e)
   ·have HS : Hid (∀ (i : Nat) (hi : i < st.inn.length),i < j + 1 → st.inn[i] ≠ (x,y)):=fun i hi hij => by
     by_cases e : i = j
     ·subst e
      rw [HUV.out]
      intro e2
      cases e2
      exact heq ⟨rfl,rfl⟩
     ·exact HJ.out i hi (by omega)
    by_cases hux : u = x
    ·subst hux
     have hvy : ¬ v = y:=fun e => heq ⟨rfl,e⟩
     have hvb : (v == y) = false:=beq_eq_false_iff_ne.2 hvy
     clear heq
     go_wp2
     go_quiet (fail)
     go_wp2
     go_roundw
     case rel => exact ⟨j + 1,by omega,by go_num,HS,⟨hg.1,hg.2,hg.3,hg.4,hg.5⟩,hb⟩
     case measure => simp [intOf];omega
    ·have hub2 : (u == x) = false:=beq_eq_false_iff_ne.2 hux
     clear heq
     go_wp2
     go_quiet (fail)
     go_wp2
     go_roundw
     case rel => exact ⟨j + 1,by omega,by go_num,HS,⟨hg.1,hg.2,hg.3,hg.4,hg.5⟩,hb⟩
     case measure => simp [intOf];omega
  ·have hnm : ¬ (x,y) ∈ st.inn:=fun hm => by
    obtain ⟨i,hi,e⟩:=List.mem_iff_getElem.1 hm
    exact HJ.out i hi (by omega) e
   have HM : Hid (jJc st (x,y) = 1):=if_neg hnm
   have HF : Hid (jBj st (x,y) = st):=if_neg hnm
   go_wp2
   go_ret
   refine ⟨by rw [HM.out];rfl,_,_,by rw [HF.out];exact R1,jHj (Gr.of hg) (fun _ e => by cases e),fun k hk => .inl hk⟩
end
section
open Go.RowKit
set_option maxRecDepth 100000
section
variable {n0 h gm : Nat} {w w1 : World} {st : Sb} {vi vg v' : Value} {tmp : Obj}
theorem RSl.appInn (R : RSl n0 w h st vi vg gm) (x y : Int) (hown : w1.ownsRow n0 92 2 v' (st.inn.length + 1) (jBl st.inn ++ [.int .i64 x,.int .i64 y])) (hgrow : (w.alloc tmp).grownBy w1 vi.ownBlock) (hat : v'.ownBlock = vi.ownBlock ∨ v'.ownBlock = some (w.alloc tmp).heap.size) :
  w1.cell? ⟨h,1,none⟩ = some vi ∧ w1.frozen? ⟨h,1,none⟩ = false ∧ RSl n0 (w1.setCell ⟨h,1,none⟩ v') h ⟨st.bud,st.inn ++ [(x,y)],st.gone,st.made⟩ v' vg gm ∧ Gr (jD9 h gm vi vg) w (w1.setCell ⟨h,1,none⟩ v') ∧ (∀ k,jD9 h gm v' vg k → jD9 h gm vi vg k ∨ w.heap.size ≤ k):=by
 have hsa : (w.alloc tmp).heap.size = w.heap.size + 1:=World.size_alloc _ _
 have old : ∀ k,k < w.heap.size → vi.ownBlock ≠ some k → w1.heap[k]? = w.heap[k]?:=fun k hk hv => (hgrow.block k (by omega) (fun e => hv e.symm)).trans (Below.heap_alloc _ _ _ hk)
 have lh:=R.lt h (.inl rfl)
 have lm:=R.lt gm (.inr (.inl rfl))
 have hhead:=(old h lh R.ih).trans R.head
 have hmade:=(old gm lm R.im).trans R.made
 have hinn : w1.ownsRow n0 92 2 vg st.gone.length (jBl st.gone):=jGy R.gone fun k hk => old k (R.lt k (.inr (.inr (.inr hk)))) (fun e => R.ig k e hk)
 have hv : ∀ k,v'.ownBlock = some k → vi.ownBlock = some k ∨ w.heap.size ≤ k:=fun k hk => by
  rcases hat with e | e
  ·exact .inl (by rw [← e];exact hk)
  ·rw [e] at hk
   cases hk
   exact .inr (by omega)
 have hne : ∀ k,v'.ownBlock = some k → ¬ (k = h ∨ k = gm ∨ vg.ownBlock = some k):=fun k hk => by
  rcases hv k hk with e | e
  ·rintro (rfl | rfl | e2)
   ·exact R.ih e
   ·exact R.im e
   ·exact R.ig k e e2
  ·rintro (rfl | rfl | e2)
   ·omega
   ·omega
   ·have:=R.lt k (.inr (.inr (.inr e2)))
    omega
 have hvh : v'.ownBlock ≠ some h:=fun e => hne h e (.inl rfl)
 have hown2 : w1.ownsRow n0 92 2 v' (st.inn ++ [(x,y)]).length (jBl (st.inn ++ [(x,y)])):=by
  rw [List.length_append,jXw]
  exact hown
 refine ⟨by simp [World.cell?,hhead],by simp [World.frozen?,hhead],?_,?_,?_⟩
 ·exact { head:=(jN7 hhead v').1,inn:=jHa hown2 hvh,gone:=jHa hinn R.gh,made:=(heap_setCell_other _ _ _ _ (fun e => R.hm e.symm)).trans hmade,len:=R.len,ih:=hvh,im:=fun e => hne gm e (.inr (.inl rfl)),gh:=R.gh,gg:=R.gg,ig:=fun k hk hg => hne k hk (.inr (.inr hg)),hm:=R.hm,h0:=R.h0,m0:=R.m0 }
 ·refine ⟨hgrow.1,hgrow.2,hgrow.3,?_,fun k hk hr => ?_⟩
  ·have:=hgrow.4
   rw [World.size_setCell]
   omega
  ·rw [heap_setCell_other _ _ _ _ (fun e => hr (.inl e))]
   exact old k hk (fun e => hr (.inr (.inr (.inl e))))
 ·rintro k (e | e | e | e)
  ·exact .inl (.inl e)
  ·exact .inl (.inr (.inl e))
  ·exact (hv k e).elim (fun e => .inl (.inr (.inr (.inl e)))) .inr
  ·exact .inl (.inr (.inr (.inr e)))
theorem kFt (l : List Nat) (k y : Nat) : (jNz l).setIfInBounds k (.int .i64 (y : Int)) = jNz (l.set k y):=by
 unfold jNz
 rw [List.setIfInBounds_toArray,List.map_set]
theorem RSl.madeAt (R : RSl n0 w h st vi vg gm) (k : Nat) (hk : k < 6) : w.cell? ⟨gm,k,none⟩ = some (.int .i64 ((st.made.getD k 0 : Nat) : Int)) ∧ w.frozen? ⟨gm,k,none⟩ = false:=by
 have hl:=R.len
 refine ⟨?_,frozen_of_row w gm k _ _ R.made⟩
 rw [cell_of_row w gm k _ _ _ R.made]
 simp [jNz,List.getD,List.getElem?_eq_getElem (show k < st.made.length by omega)]
theorem RSl.setMade (R : RSl n0 w h st vi vg gm) (k y : Nat) : RSl n0 (w.setCell ⟨gm,k,none⟩ (.int .i64 (y : Int))) h ⟨st.bud,st.inn,st.gone,st.made.set k y⟩ vi vg gm :=
 { R with
  head:=(heap_setCell_other _ _ _ _ R.hm).trans R.head
  inn:=jHa R.inn R.im
  gone:=jHa R.gone R.gg
  made:=by rw [heap_setCell_same w gm k _ _ _ R.made,kFt]
  len:=by rw [List.length_set];exact R.len }
end
theorem kGx {st : Sb} {k : Nat} (h : ∀ c ∈ st.gone,c.1 ≠ (k : Int)) : jBh st k = ((k : Int),((st.made.getD k 0 : Nat) : Int)) ∧ ¬ jBh st k ∈ st.gone:=by
 rcases jH5 st k with ⟨h1,h2⟩ | ⟨_,h2⟩
 ·exact (h _ h1 h2).elim
 ·exact ⟨h2,fun hm => h _ hm (jIu st k)⟩
theorem kF6 {st : Sb} {k m : Nat} (hm : m < st.gone.length) (h1 : st.gone[m].1 = (k : Int)) (h2 : ∀ (i : Nat) (hi : i < st.gone.length),m < i → st.gone[i].1 ≠ (k : Int)) : jBh st k = st.gone[m]:=by
 have e : st.gone = st.gone.take m ++ [st.gone[m]] ++ st.gone.drop (m + 1):=by
  rw [List.append_assoc,List.singleton_append,← List.drop_eq_getElem_cons hm,List.take_append_drop]
 have hd : (st.gone.drop (m + 1)).filter (fun c => decide (c.1 = (k : Int))) = []:=by
  rw [List.filter_eq_nil_iff]
  intro c hc
  obtain ⟨i,hi,rfl⟩:=List.mem_iff_getElem.1 hc
  rw [List.getElem_drop]
  have hl : m + 1 + i < st.gone.length:=by rw [List.length_drop] at hi;omega
  simpa using h2 (m + 1 + i) hl (by omega)
 unfold jBh
 have hf : st.gone.filter (fun c => decide (c.1 = (k : Int))) = (st.gone.take m).filter (fun c => decide (c.1 = (k : Int))) ++ [st.gone[m]]:=by
  conv => lhs;rw [e]
  rw [List.filter_append,List.filter_append,hd,List.append_nil]
  have : [st.gone[m]].filter (fun c => decide (c.1 = (k : Int))) = [st.gone[m]]:=by simp [h1]
  rw [this]
 rw [hf]
 simp
theorem kH2 (w : World) : (Instr.makeSlice 100 (.int .i64 6) (.int .i64 6)).run Tryz.prog w = .ok (.slice (some ⟨w.heap.size,0,none⟩) 6 6) (w.alloc (.cells (jNz [0,0,0,0,0,0]) 3)):=by kernel_rfl
theorem kC4 (bud : Int) (n0 : Nat) (w : World) (hn : n0 ≤ w.heap.size) : Calls Tryz.prog 26 #[.int .i64 bud] w fun e w' => ∃ h gm,e = .returned (.pointer (some ⟨h,0,none⟩)) ∧ RSl n0 w' h (jEt bud) (.slice none 0 0) (.slice none 0 0) gm ∧ (∀ k,jD9 h gm (.slice none 0 0) (.slice none 0 0) k → w.heap.size ≤ k) ∧ w.grownBy w' none:=by
 have hmk:=kH2
 generalize hR : jNz [0,0,0,0,0,0] = M at *
 have HR:=jAa hR
 clear hR
 go_enter Tryz.func26,Tryz.ntmps26
 go_wp2
 go_ret
 refine ⟨w.heap.size + 1,w.heap.size,rfl,?_,?_,jAt (World.grownBy_alloc _ _ _) (World.grownBy_alloc _ _ _)⟩
 ·exact { head:=heap_alloc2_new w _ _,inn:=World.ownsRow_nil _ _ _ _,gone:=World.ownsRow_nil _ _ _ _,made:=by rw [show (jEt bud).made = [0,0,0,0,0,0] from rfl,HR.out];exact heap_alloc2_old w _ _,len:=rfl,ih:=by simp [Value.ownBlock],im:=by simp [Value.ownBlock],gh:=by simp [Value.ownBlock],gg:=by simp [Value.ownBlock],ig:=fun k hk => by simp [Value.ownBlock] at hk,hm:=by omega,h0:=by omega,m0:=hn }
 ·rintro k (rfl | rfl | e | e)
  ·omega
  ·omega
  ·simp [Value.ownBlock] at e
  ·simp [Value.ownBlock] at e
theorem jFr {n0 h gm : Nat} {w : World} {st : Sb} {vi vg : Value} (R : RSl n0 w h st vi vg gm) (hs : Small st 9000) (hbud : I64 st.bud) (size less : Int) (hl : I64 less) : Calls Tryz.prog 147 #[.pointer (some ⟨h,0,none⟩),.int .i64 size,.int .i64 less] w fun e w' => e = .returned (.bool (jB3 st size less)) ∧ ∃ d,w' = w.drewN d:=by
 have hub:=jId hs
 have hbl:=jGr (jA1 size)
 have hbn:=jDk (jA1 size)
 have hbc:=R.budC
 have HU:=jAa (jO1 R (jH4 hs (by decide)))
 have HF : Hid (jB3 st size less = decide (size ≤ 2048 ∧ 0 ≤ less ∧ less ≤ jBn st ∧ jBn st - less + jAu (jA1 size) ≤ st.bud)):=rfl
 have HE : Hid (jBo size = if size ≤ 2048 then 0 else 4):=rfl
 obtain ⟨c,hc⟩ : ∃ c,jA1 size = c:=⟨_,rfl⟩
 obtain ⟨er,her⟩ : ∃ e,jBo size = e:=⟨_,rfl⟩
 rw [hc] at HF hbl hbn
 obtain ⟨n,hn⟩ : ∃ n,jBn st = n:=⟨_,rfl⟩
 obtain ⟨m,hm⟩ : ∃ m,jAu (c : Int) = m:=⟨_,rfl⟩
 rw [hn] at HU HF hub
 rw [hm] at HF hbl hbn
 rw [her] at HE
 have HC:=jAa hc
 have HR:=jAa her
 have HM:=jAa hm
 clear hc her hm hn
 obtain ⟨hb1,hb2⟩:=hbud
 obtain ⟨hl1,hl2⟩:=hl
 by_cases h1 : size ≤ 2048
 ·have he:=HE.out
  rw [if_pos h1] at he
  subst he
  clear HE
  by_cases h2 : 0 ≤ less
  ·by_cases h3 : less ≤ n
   ·have HQ : Hid (jB3 st size less = decide (n - less + m ≤ st.bud)):=by
     show jB3 st size less = _
     rw [HF.out]
     exact decide_eq_decide.2 ⟨fun x => x.2.2.2,fun x => ⟨h1,h2,h3,x⟩⟩
    clear HF h1
    go_enter Tryz.func147,Tryz.ntmps147
    go_wp2_with (first
     | (go_at_call 109;refine (jDt size _).mono ?_;rintro e w1 ⟨he,rfl⟩;rw [HC.out,HR.out] at he;subst he)
     | (go_at_call 48;refine HU.out.mono ?_;rintro e w2 ⟨rfl,rfl⟩))
    go_quiet ((go_at_call 85;refine Calls.quiet_of_same ((jDc (c : Int) _).mono fun e w' h => ⟨by rw [h.1,HM.out],h.2.symm⟩)))
    go_wp2
    go_ret
    exact ⟨by rw [HQ.out];rfl,nq,rfl⟩
   ·have HQ : Hid (jB3 st size less = false):=by
     show jB3 st size less = _
     rw [HF.out]
     exact decide_eq_false fun x => h3 x.2.2.1
    have h3n : decide (less ≤ n) = false:=decide_eq_false h3
    clear HF h1 h3
    go_enter Tryz.func147,Tryz.ntmps147
    go_wp2_with (first
     | (go_at_call 109;refine (jDt size _).mono ?_;rintro e w1 ⟨he,rfl⟩;rw [HC.out,HR.out] at he;subst he)
     | (go_at_call 48;refine HU.out.mono ?_;rintro e w2 ⟨rfl,rfl⟩))
    go_quiet ((go_at_call 85;refine Calls.quiet_of_same ((jDc (c : Int) _).mono fun e w' h => ⟨by rw [h.1,HM.out],h.2.symm⟩)))
    go_wp2
    go_ret
    exact ⟨by rw [HQ.out];rfl,nq,rfl⟩
  ·have HQ : Hid (jB3 st size less = false):=by
    show jB3 st size less = _
    rw [HF.out]
    exact decide_eq_false fun x => h2 x.2.1
   have h2n : decide (0 ≤ less) = false:=decide_eq_false h2
   clear HF h1 h2
   go_enter Tryz.func147,Tryz.ntmps147
   go_wp2_with (first
    | (go_at_call 109;refine (jDt size _).mono ?_;rintro e w1 ⟨he,rfl⟩;rw [HC.out,HR.out] at he;subst he)
    | (go_at_call 48;refine HU.out.mono ?_;rintro e w2 ⟨rfl,rfl⟩))
   go_quiet ((go_at_call 85;refine Calls.quiet_of_same ((jDc (c : Int) _).mono fun e w' h => ⟨by rw [h.1,HM.out],h.2.symm⟩)))
   go_wp2
   go_ret
   exact ⟨by rw [HQ.out];rfl,nq,rfl⟩
 ·have he:=HE.out
  rw [if_neg h1] at he
  subst he
  have HQ : Hid (jB3 st size less = false):=by
   show jB3 st size less = _
   rw [HF.out]
   exact decide_eq_false fun x => h1 x.1
  clear HF HE h1
  go_enter Tryz.func147,Tryz.ntmps147
  go_wp2_with (first
   | (go_at_call 109;refine (jDt size _).mono ?_;rintro e w1 ⟨he,rfl⟩;rw [HC.out,HR.out] at he;subst he)
   | (go_at_call 48;refine HU.out.mono ?_;rintro e w2 ⟨rfl,rfl⟩))
  go_quiet ((go_at_call 85;refine Calls.quiet_of_same ((jDc (c : Int) _).mono fun e w' h => ⟨by rw [h.1,HM.out],h.2.symm⟩)))
  go_wp2
  go_ret
  exact ⟨by rw [HQ.out];rfl,nq,rfl⟩
end
section
open Go.RowKit
set_option maxRecDepth 100000
theorem jRu {W : World} {r : Nat} {x y e : Value} {tmps : Array Value} {Post : Ending → World → Prop} (hb : W.heap[r]? = some (.cells #[x,y] 92 (0,0))) (h4 : tmps.getD 4 undef = .pointer (some ⟨r,0,none⟩)) (h5 : tmps.getD 5 undef = e)
  (h : Post (.returned (.tuple #[.agg #[x,y],e])) W) : bodyPost Tryz.prog Tryz.f111 Post .ret { tmps:=tmps,defers:=[] } W:=by
 have hl:=run_loadVar_row (P:=Tryz.prog) W r _ 92 _ _ _ hb Tryz.underlying92 rfl (by kernel_rfl)
 have hr : (results Tryz.f111 tmps).run Tryz.prog W = .ok (.tuple #[.agg #[x,y],e]) W:=by
  rw [results_cell_tmp rfl,h4,h5]
  simp only [asAddr,Sem.run_pure,Result.andThen_ok,hl]
 exact bodyPost_ret hr rfl h
theorem jTo {W : World} {r : Nat} {a b : Value} {t : TypeId} (hb : W.heap[r]? = some (.cells #[a,b] t (0,0))) (x y : Value) : ((W.setCell ⟨r,0,none⟩ x).setCell ⟨r,1,none⟩ y).heap[r]? = some (.cells #[x,y] t (0,0)) :=
 heap_setCell_same _ r 1 #[x,b] t y (heap_setCell_same W r 0 #[a,b] t x hb)
theorem jKx {W : World} {r k : Nat} {x y : Value} (h : k ≠ r) : ((W.setCell ⟨r,0,none⟩ x).setCell ⟨r,1,none⟩ y).heap[k]? = W.heap[k]? :=
 (heap_setCell_other _ _ _ _ h).trans (heap_setCell_other _ _ _ _ h)
theorem jZa {F : Nat → Prop} {w W : World} {r : Nat} {x y : Value} (hg : Gr F w W) (hr : w.heap.size ≤ r) : Gr F w ((W.setCell ⟨r,0,none⟩ x).setCell ⟨r,1,none⟩ y) :=
 ⟨hg.os,hg.tape,hg.output,by rw [World.size_setCell,World.size_setCell];exact hg.size,fun k hk hf => (jKx (by omega)).trans (hg.block k hk hf)⟩
set_option maxRecDepth 100000 in
theorem jT9 {n0 h gm : Nat} {w : World} {st : Sb} {vi vg : Value} (R : RSl n0 w h st vi vg gm) (hG : jDo st) (hs : Small st 9000) (hbud : I64 st.bud) (hn0 : n0 ≤ w.heap.size) (size : Int) :
  Calls Tryz.prog 111 #[.pointer (some ⟨h,0,none⟩),.int .i64 size] w fun e w' => e = .returned (.tuple #[ckV (jBp st size),.int .i64 (jB1 st size)]) ∧ ∃ vi' vg',RSl n0 w' h (takeS st size) vi' vg' gm ∧ Gr (jD9 h gm vi vg) w w' ∧ (∀ k,jD9 h gm vi' vg' k → jD9 h gm vi vg k ∨ w.heap.size ≤ k):=by
 have hub:=jId hs
 have hbl:=jGr (jA1 size)
 have hbn:=jDk (jA1 size)
 have hc6:=jNd size
 have hg0:=World.grownBy_alloc w (.cells #[.int .i64 0,.int .i64 0] 92) none
 have R0:=R.kept hg0
 have hb0:=heap_alloc_new w (.cells #[.int .i64 0,.int .i64 0] 92)
 have HTE : Hid (jB1 st size = if size ≤ 2048 then (if jBn st + jAu (jA1 size) ≤ st.bud then 0 else 5) else 4):=rfl
 have HER : Hid (jBo size = if size ≤ 2048 then 0 else 4):=rfl
 have HU:=jAa (fun (W : World) (RW : RSl n0 W h st vi vg gm) => jO1 RW (jH4 hs (by decide)))
 obtain ⟨c,hc⟩ : ∃ c,jA1 size = c:=⟨_,rfl⟩
 obtain ⟨n,hn⟩ : ∃ n,jBn st = n:=⟨_,rfl⟩
 obtain ⟨m,hm⟩ : ∃ m,jAu (c : Int) = m:=⟨_,rfl⟩
 rw [hc] at HTE hbl hbn hc6
 rw [hn] at HTE hub HU
 rw [hm] at HTE hbl hbn
 have HC:=jAa hc
 have HM:=jAa hm
 clear hc hm hn
 obtain ⟨hb1,hb2⟩:=hbud
 by_cases h1 : size ≤ 2048
 ·have he : jBo size = 0:=by rw [HER.out,if_pos h1]
  have HE:=jAa he
  have ht:=HTE.out
  rw [if_pos h1] at ht
  clear he HER HTE
  by_cases h2 : n + m ≤ st.bud
  ·have hte : jB1 st size = 0:=by rw [ht,if_pos h2]
   have hck : jBp st size = jBh st c:=by unfold jBp;rw [if_pos hte,HC.out]
   have hst : takeS st size = jC7 st c (jBh st c):=by unfold takeS;rw [if_pos hte,HC.out]
   have HT:=jAa hte
   have HK:=jAa hck
   have HS:=jAa hst
   clear hte hck hst ht h1
   have hbc:=R0.budC
   have hni:=hs.inn
   have hng:=hs.gone
   obtain ⟨pv,cv,rfl⟩:=jAr R.inn
   obtain ⟨pg,cg,rfl⟩:=jAr R.gone
   obtain ⟨i0,hi,hz0,hz1,hz2⟩:=info_parts jSm
   have hmd : st.made.getD c 0 ≤ 9000:=by
    have hl:=R.len
    have hc : c < st.made.length:=by omega
    simp only [List.getD,List.getElem?_eq_getElem hc,Option.getD_some]
    exact hs.made _ (List.getElem_mem hc)
   generalize hW : w.alloc (.cells #[.int .i64 0,.int .i64 0] 92) = W at *
   have HU2 : ∀ k : Nat,Calls Tryz.prog 48 #[.pointer (some ⟨h,0,none⟩)] (W.drewN k) fun e w' => e = .returned (.int .i64 n) ∧ w' = W.drewN k:=fun k => (HU.out (W.drewN k) (R0.same fun _ _ => rfl)).mono fun e w' h => ⟨h.1,h.2.symm⟩
   have HB2 : ∀ k : Nat,Calls Tryz.prog 85 #[.int .i64 (c : Int)] (W.drewN k) fun e w' => e = .returned (.int .i64 m) ∧ w' = W.drewN k:=fun k => (jDc (c : Int) (W.drewN k)).mono fun e w' h => ⟨by rw [h.1,HM.out],h.2.symm⟩
   go_enter Tryz.func111,Tryz.ntmps111
   go_wp2_with (go_at_call 109;refine (jDt size _).mono ?_;rintro e w1 ⟨he,rfl⟩;rw [HC.out,HE.out] at he;subst he)
   go_quiet ((first
    | (go_at_call 48;exact Calls.quiet_of_same (HU2 _))
    | (go_at_call 85;exact Calls.quiet_of_same (HB2 _))))
   have R2 : RSl n0 (W.drewN nq) h st (.slice pv st.inn.length cv) (.slice pg st.gone.length cg) gm:=R0.same fun _ _ => rfl
   have hb2 : (W.drewN nq).heap[w.heap.size]? = some (.cells #[.int .i64 0,.int .i64 0] 92):=hb0
   have hg2 : w.grownBy (W.drewN nq) none:=⟨hg0.1,hg0.2,hg0.3,hg0.4,hg0.5⟩
   generalize W.drewN nq = W2 at *
   clear HU2 HB2 HU hbc R0 hb0 hg0 hW hub hbl hbn hb1
   have hmc:=R2.madeC
   obtain ⟨hm1,hm2⟩:=R2.madeAt c hc6
   obtain ⟨md,hmd2⟩ : ∃ md,st.made.getD c 0 = md:=⟨_,rfl⟩
   rw [hmd2] at hmd hm1
   have HMD:=jAa hmd2
   clear hmd2
   have hci : (c : Int) < 6:=by omega
   have R3:=R2.kept (World.grownBy_alloc W2 (.cells #[.int .i64 c,.int .i64 md] 92) none)
   have hb3:=(Below.heap_alloc W2 (.cells #[.int .i64 c,.int .i64 md] 92) _ (Array.getElem?_eq_some_iff.1 hb2).1).trans hb2
   have hx3:=heap_alloc_new W2 (.cells #[.int .i64 c,.int .i64 md] 92)
   have hg3:=jAt hg2 (World.grownBy_alloc W2 (.cells #[.int .i64 c,.int .i64 md] 92) none)
   have hlt3 : w.heap.size < W2.heap.size:=(Array.getElem?_eq_some_iff.1 hb2).1
   generalize hW3 : W2.alloc (.cells #[.int .i64 c,.int .i64 md] 92) = W3 at *
   have hgc:=R3.goneC
   go_wp2
   clear h2 hW3
   go_loop [9,10] (fun a i => ∃ j : Nat,j ≤ st.gone.length ∧ i = .int .i64 j ∧ ((a = .int .i64 (-1) ∧ Hid (∀ (i : Nat) (hi : i < st.gone.length),i < j → st.gone[i].1 ≠ (c : Int))) ∨ ∃ m : Nat,a = .int .i64 m ∧ Hid (m < j ∧ ∃ hm : m < st.gone.length,st.gone[m].1 = (c : Int) ∧ ∀ (i : Nat) (hi : i < st.gone.length),m < i → i < j → st.gone[i].1 ≠ (c : Int)))) (fun _ i => st.gone.length - (intOf i).toNat)
   case atStart => exact ⟨0,Nat.zero_le _,rfl,.inl ⟨rfl,fun i _ hi => (Nat.not_lt_zero _ hi).elim⟩⟩
   case round =>
    obtain ⟨j,hj,rfl,hA⟩:=hrel
    by_cases hjn : j < st.gone.length
    ·obtain ⟨g1,cg3,e4⟩:=jCk R.gone (by omega)
     cases e4
     obtain ⟨⟨u,v⟩,huv⟩ : ∃ c,st.gone[j] = c:=⟨_,rfl⟩
     obtain ⟨c0,c1⟩:=jKn R3.gone j hjn
     rw [huv] at c0 c1
     have HUV:=jAa huv
     clear huv
     have HA:=jAa hA
     clear hA
     by_cases hux : u = (c : Int)
     ·have hub2 : (u == (c : Int)) = true:=beq_iff_eq.2 hux
      have HS2 : Hid (j < j + 1 ∧ ∃ hm : j < st.gone.length,st.gone[j].1 = (c : Int) ∧ ∀ (i : Nat) (hi : i < st.gone.length),j < i → i < j + 1 → st.gone[i].1 ≠ (c : Int)):=⟨Nat.lt_succ_self _,hjn,by rw [HUV.out];exact hux,fun i hi h1 h2 => by omega⟩
      clear hux
      go_wp2
      go_round
      case rel => exact ⟨j + 1,by omega,by go_num,.inr ⟨j,rfl,HS2⟩⟩
      case measure => simp [intOf];omega
     ·have hub2 : (u == (c : Int)) = false:=beq_eq_false_iff_ne.2 hux
      have HUX:=jAa hux
      clear hux
      go_wp2
      go_round
      case rel =>
       refine ⟨j + 1,by omega,by go_num,?_⟩
       rcases HA.out with ⟨e1,e2⟩ | ⟨m,e1,e2,e3,e5,e6⟩
       ·refine .inl ⟨e1,fun i hi h1 => ?_⟩
        by_cases e : i = j
        ·subst e
         rw [HUV.out]
         exact HUX.out
        ·exact e2.out i hi (by omega)
       ·refine .inr ⟨m,e1,by omega,e3,e5,fun i hi h1 h2 => ?_⟩
        by_cases e : i = j
        ·subst e
         rw [HUV.out]
         exact HUX.out
        ·exact e6 i hi h1 (by omega)
      case measure => simp [intOf];omega
    ·obtain rfl : j = st.gone.length:=by omega
     clear hj hjn hm1 hm2 hmc
     obtain ⟨a,rfl,hA2⟩ : ∃ a : Int,u9 = .int .i64 a ∧ ((a = -1 ∧ Hid (∀ (i : Nat) (hi : i < st.gone.length),i < st.gone.length → st.gone[i].1 ≠ (c : Int))) ∨ ∃ m : Nat,a = (m : Int) ∧ Hid (m < st.gone.length ∧ ∃ hm : m < st.gone.length,st.gone[m].1 = (c : Int) ∧ ∀ (i : Nat) (hi : i < st.gone.length),m < i → i < st.gone.length → st.gone[i].1 ≠ (c : Int))):=by
      rcases hA with ⟨e,hh⟩ | ⟨m,e,hh⟩
      ·exact ⟨-1,e,.inl ⟨rfl,hh⟩⟩
      ·exact ⟨m,e,.inr ⟨m,rfl,hh⟩⟩
     clear hA
     go_upto_if 62 with fail
     go_cut [11] from 61 to 98 (fun _rest wx => ∃ (vg' : Value) (x y : Int) (gone' : List Ck) (made' : List Nat),RSl n0 wx h ⟨st.bud,st.inn,gone',made'⟩ (.slice pv st.inn.length cv) vg' gm ∧ wx.heap[W2.heap.size]? = some (.cells #[.int .i64 x,.int .i64 y] 92) ∧ wx.heap[w.heap.size]? = some (.cells #[.int .i64 0,.int .i64 0] 92) ∧
      Hid (jBh st c = (x,y) ∧ jC7 st c (x,y) = ⟨st.bud,st.inn ++ [(x,y)],gone',made'⟩) ∧ Gr (jD9 h gm (.slice pv st.inn.length cv) (.slice pg st.gone.length cg)) w wx ∧ (∀ k,vg'.ownBlock = some k → (Value.slice pg st.gone.length cg).ownBlock = some k ∨ w.heap.size ≤ k) ∧ ∀ k,jD9 h gm (.slice pv st.inn.length cv) vg' k → k ≠ W2.heap.size ∧ k ≠ w.heap.size)
     case first =>
      rcases hA2 with ⟨rfl,HA⟩ | ⟨m,rfl,HA⟩
      ·have hno : ∀ d ∈ st.gone,d.1 ≠ (c : Int):=fun d hd => by
        obtain ⟨i,hi,rfl⟩:=List.mem_iff_getElem.1 hd
        exact HA.out i hi hi
       obtain ⟨hx1,hx2⟩:=kGx hno
       rw [hx1,HMD.out] at hx2
       rw [HMD.out] at hx1
       have HN : Hid (jBh st c = ((c : Int),(md : Int)) ∧ jC7 st c ((c : Int),(md : Int)) = ⟨st.bud,st.inn ++ [((c : Int),(md : Int))],st.gone,st.made.set c (md + 1)⟩):=⟨hx1,by unfold jC7;rw [if_neg hx2,HMD.out]⟩
       clear hno hx1 hx2 HA
       have hmc:=R3.madeC
       obtain ⟨hm1,hm2⟩:=R3.madeAt c hc6
       rw [HMD.out] at hm1
       have R4:=R3.setMade c (md + 1)
       have hgl:=R2.lt gm (.inr (.inl rfl))
       have hb4:=(heap_setCell_other W3 ⟨gm,c,none⟩ w.heap.size (.int .i64 ((md + 1 : Nat) : Int)) (Nat.ne_of_gt (R.lt gm (.inr (.inl rfl))))).trans hb3
       have hx4:=(heap_setCell_other W3 ⟨gm,c,none⟩ W2.heap.size (.int .i64 ((md + 1 : Nat) : Int)) (Nat.ne_of_gt hgl)).trans hx3
       have hg4 : Gr (jD9 h gm (.slice pv st.inn.length cv) (.slice pg st.gone.length cg)) w (W3.setCell ⟨gm,c,none⟩ (.int .i64 ((md + 1 : Nat) : Int))):=(jHj (Gr.of hg3) (fun _ e => by cases e)).trans (jXx _ _ _ _ _ (.inr (.inl rfl)))
       have E2 : ((md + 1 : Nat) : Int) = (md : Int) + 1:=by omega
       rw [E2] at R4 hb4 hx4 hg4
       clear E2
       have K1:=jAa R4
       have K2:=jAa hb4
       have K3:=jAa hx4
       have K4:=jAa hg4
       clear R4 hb4 hx4 hg4
       go_wp2_with fail
       go_meet
       exact ⟨_,_,_,_,_,K1.out,K3.out,K2.out,HN,K4.out,fun k hk => .inl hk,fun k hk => ⟨Nat.ne_of_lt (R2.lt k hk),Nat.ne_of_lt (R.lt k hk)⟩⟩
      ·obtain ⟨_,hm,e5,e6⟩:=HA.out
       clear HA
       have hnl:=kF6 hm e5 (fun i hi h1 => e6 i hi h1 hi)
       obtain ⟨⟨x,y⟩,hxy⟩ : ∃ c,st.gone[m] = c:=⟨_,rfl⟩
       have hmem : (x,y) ∈ st.gone:=by rw [← hxy];exact List.getElem_mem hm
       have hera : st.gone.erase (x,y) = st.gone.eraseIdx m:=by rw [← hxy];exact jUe (List.nodup_append.1 hG.nodup).2.1 m hm
       rw [hxy] at hnl
       have HN : Hid (jBh st c = (x,y) ∧ jC7 st c (x,y) = ⟨st.bud,st.inn ++ [(x,y)],st.gone.eraseIdx m,st.made⟩):=⟨hnl,by unfold jC7;rw [if_pos hmem,hera]⟩
       have HXY:=jAa hxy
       clear hnl hmem hera hxy e5 e6
       obtain ⟨g1,cg3,e4⟩:=jCk R.gone (by omega)
       cases e4
       obtain ⟨c0,c1⟩:=jKn R3.gone m hm
       rw [HXY.out] at c0 c1
       obtain ⟨x0,x1⟩:=jIb hx3
       have x2 : W3.frozen? ⟨W2.heap.size,0,none⟩ = false:=frozen_of_row _ _ _ _ _ hx3
       have x3 : W3.frozen? ⟨W2.heap.size,1,none⟩ = false:=frozen_of_row _ _ _ _ _ hx3
       have hbig : ∀ k,jD9 h gm (.slice pv st.inn.length cv) (.slice (some ⟨g1,0,none⟩) st.gone.length cg) k → k ≠ W2.heap.size:=fun k hk => Nat.ne_of_lt (R2.lt k hk)
       have R4 : RSl n0 ((W3.setCell ⟨W2.heap.size,0,none⟩ (.int .i64 x)).setCell ⟨W2.heap.size,1,none⟩ (.int .i64 y)) h st (.slice pv st.inn.length cv) (.slice (some ⟨g1,0,none⟩) st.gone.length cg) gm:=R3.same fun k hk => jKx (hbig k hk)
       have hx4:=jTo hx3 (.int .i64 x) (.int .i64 y)
       have hb4:=(jKx (W:=W3) (x:=.int .i64 x) (y:=.int .i64 y) (Nat.ne_of_lt hlt3)).trans hb3
       have hg4 : Gr (fun _ => False) w ((W3.setCell ⟨W2.heap.size,0,none⟩ (.int .i64 x)).setCell ⟨W2.heap.size,1,none⟩ (.int .i64 y)):=jZa (jHj (Gr.of hg3) (fun _ e => by cases e)) (Nat.le_of_lt hlt3)
       generalize hW4 : (W3.setCell ⟨W2.heap.size,0,none⟩ (.int .i64 x)).setCell ⟨W2.heap.size,1,none⟩ (.int .i64 y) = W4 at *
       have hc4:=R4.goneC
       have hcv:=jGe R4.gone
       have hN1:=jVb R4.gone m hm
       obtain ⟨ad,had,hN2⟩:=jT8 R4.gone m hm
       have hl1 : ((jBl st.gone).take (m * 2)).length = m * 2:=by rw [List.length_take,jE2];omega
       have hl2 : ((jBl st.gone).drop ((m + 1) * 2)).length = (st.gone.length - (m + 1)) * 2:=by rw [List.length_drop,jE2];omega
       have hO1 : ∀ u ∈ (jBl st.gone).take (m * 2),u.oneCell' = true:=fun u hu => jNx _ u (List.mem_of_mem_take hu)
       have hO2 : ∀ u ∈ (jBl st.gone).drop ((m + 1) * 2),u.oneCell' = true:=fun u hu => jNx _ u (List.mem_of_mem_drop hu)
       have E0 : IntKind.i64.wrap ((m : Int) + 1) = (m : Int) + 1:=by
        simp [IntKind.wrap,IntKind.bits,IntKind.signed]
        omega
       have E1 : (0 : Int) ≤ (m : Int) + 1:=by omega
       have E2 : (m : Int) + 1 ≤ (st.gone.length : Int):=by omega
       have E3 : ((m : Int) + 1).toNat = m + 1:=by omega
       have hkc : m ≤ cg:=by omega
       have hk1 : m + 1 ≤ st.gone.length:=hm
       have hbase : n0 ≤ W4.heap.size:=Nat.le_trans hn0 hg4.size
       go_wp2_with (first
        | (at_builtin;refine wpList_append_own_at _ rfl _ _ 117 rfl n0 92 i0 (.agg #[.int .i64 0,.int .i64 0]) 2 16 Tryz.underlying117 hi hz0 hz1 hz2 rfl (by decide) (.slice none 0 0) 0 [] rfl (World.ownsRow_nil _ _ _ _) ⟨g1,0,none⟩ m cg ((jBl st.gone).take (m * 2)) rfl hl1 hN1 hO1 (by unfold maxLen;omega) (by omega) hbase ?_;intro v1 w8 hown1 hgrow1 _ hat1;have R8:=R4.kept hgrow1;have hc8:=R8.goneC;have hN3:=hN2 w8 hgrow1)
        | (at_builtin;refine wpList_append_own_at _ rfl _ _ 117 rfl n0 92 i0 (.agg #[.int .i64 0,.int .i64 0]) 2 16 Tryz.underlying117 hi hz0 hz1 hz2 rfl (by decide) v1 _ _ rfl hown1 ad (st.gone.length - (m + 1)) (cg - (m + 1)) ((jBl st.gone).drop ((m + 1) * 2)) rfl hl2 hN3 hO2 (by unfold maxLen;omega) (by omega) (Nat.le_trans hbase hgrow1.size) ?_;intro v2 w9 hown2 hgrow2 _ hat2;obtain ⟨g9,n9⟩:=jUp hgrow1 hat1 hgrow2 hat2;rw [Nat.zero_add] at hown2;obtain ⟨p2,q2,rfl⟩:=jAr hown2;have R9:=R4.kept g9;have hc9:=R9.goneC;have hf9:=R9.free 2))
       have R10:=R9.setGone (st.gone.eraseIdx m) _ (jSt hm hown2) (fun k hk => by
        have h1:=n9 k hk
        rintro (e | e | e)
        ·exact Nat.not_lt_of_le h1 (by rw [e];exact R4.lt h (.inl rfl))
        ·exact Nat.not_lt_of_le h1 (by rw [e];exact R4.lt gm (.inr (.inl rfl)))
        ·exact Nat.not_lt_of_le h1 (R4.lt k (.inr (.inr (.inl e)))))
       have lx:=(Array.getElem?_eq_some_iff.1 hx4).1
       have lb:=(Array.getElem?_eq_some_iff.1 hb4).1
       have hx9:=(g9.block W2.heap.size lx (by simp)).trans hx4
       have hb9:=(g9.block w.heap.size lb (by simp)).trans hb4
       have nx : W2.heap.size ≠ h:=fun e => hbig h (.inl rfl) e.symm
       have nb : w.heap.size ≠ h:=fun e => Nat.lt_irrefl _ (by have:=R.lt h (.inl rfl);rw [← e] at this;exact this)
       have hx10:=(heap_setCell_other w9 ⟨h,2,none⟩ _ (.slice p2 (m + (st.gone.length - (m + 1))) q2) nx).trans hx9
       have hb10:=(heap_setCell_other w9 ⟨h,2,none⟩ _ (.slice p2 (m + (st.gone.length - (m + 1))) q2) nb).trans hb9
       have hg10 : Gr (jD9 h gm (.slice pv st.inn.length cv) (.slice (some ⟨g1,0,none⟩) st.gone.length cg)) w (w9.setCell ⟨h,2,none⟩ (.slice p2 (m + (st.gone.length - (m + 1))) q2)):=((jHj hg4 (fun _ e => e.elim)).trans (jHj (Gr.of g9) (fun _ e => by cases e))).trans (jXx _ _ _ _ _ (.inl rfl))
       go_meet
       refine ⟨_,_,_,_,_,R10,hx10,hb10,HN,hg10,fun k hk => .inr (Nat.le_trans hg4.size (n9 k hk)),?_⟩
       rintro k (e | e | e | e)
       ·exact ⟨by rw [e];exact nx.symm,by rw [e];exact nb.symm⟩
       ·exact ⟨hbig k (.inr (.inl e)),Nat.ne_of_lt (R.lt k (.inr (.inl e)))⟩
       ·exact ⟨hbig k (.inr (.inr (.inl e))),Nat.ne_of_lt (R.lt k (.inr (.inr (.inl e))))⟩
       ·have:=n9 k e
        exact ⟨by omega,by omega⟩
     case rest =>
      obtain ⟨vg',x,y,gone',made',R5,hx5,hb5,HN,hg5,hv5,hd5⟩:=hcut
      clear R3 hb3 hx3 hg3 hgc hA2
      have R6 : RSl n0 wc.drew h ⟨st.bud,st.inn,gone',made'⟩ (.slice pv st.inn.length cv) vg' gm:=R5.same fun _ _ => rfl
      have hic : wc.drew.cell? ⟨h,1,none⟩ = some (.slice pv st.inn.length cv):=R6.innC
      have hic2 : (wc.alloc (.cells #[.int .i64 x,.int .i64 y] 92)).cell? ⟨h,1,none⟩ = some (.slice pv st.inn.length cv):=(World.cell?_of_block (w:=wc) (Below.heap_alloc _ _ _ (R5.lt h (.inl rfl)))).trans R5.innC
      obtain ⟨b0,b1⟩:=jIb (show wc.drew.heap[W2.heap.size]? = _ from hx5)
      have HRow : Hid (wc.drew.ownsRow n0 92 2 (.slice pv st.inn.length cv) st.inn.length (jBl st.inn)):=R6.inn
      have hba : n0 ≤ wc.drew.heap.size:=Nat.le_trans hn0 hg5.size
      go_upto_region 19 with fail
      go_region_law (refine jFk _ 106 (by rfl) rfl _ _ 117 (by rfl) n0 92 i0 (.agg #[.int .i64 0,.int .i64 0]) 2 16 Tryz.underlying117 hi hz0 hz1 hz2 rfl (by decide) (.slice pv st.inn.length cv) _ _ (by rfl) (HRow.out.alloc _) ⟨_,0,none⟩ 1 1 [_,_] (by rfl) rfl (cell_two_new _ _ _ _) (by simp [Value.oneCell']) (by unfold maxLen;omega) (by omega) (kE2 hba) ?_;intro v3 w11 hown3 hgrow3 hat3;obtain ⟨p3,q3,rfl⟩:=jAr hown3;obtain ⟨k1,k2,R12,hg12,hn12⟩:=R6.appInn x y hown3 hgrow3 hat3)
      all_goals
       have hx12:=(hg12.block W2.heap.size (Array.getElem?_eq_some_iff.1 hx5).1 (fun hr => (hd5 _ hr).1 rfl)).trans hx5
       have hb12:=(hg12.block w.heap.size (Array.getElem?_eq_some_iff.1 hb5).1 (fun hr => (hd5 _ hr).2 rfl)).trans hb5
       have hl5:=(Array.getElem?_eq_some_iff.1 hb5).1
       generalize w11.setCell ⟨h,1,none⟩ (.slice p3 (st.inn.length + 1) q3) = WW at *
       obtain ⟨y0,y1⟩:=jIb hx12
       obtain ⟨r0,r1⟩:=jIb hb12
       have r2 : WW.frozen? ⟨w.heap.size,0,none⟩ = false:=frozen_of_row _ _ _ _ _ hb12
       have r3 : WW.frozen? ⟨w.heap.size,1,none⟩ = false:=frozen_of_row _ _ _ _ _ hb12
       go_wp2
       refine jRu (jTo hb12 _ _) rfl rfl ⟨by rw [HK.out,HN.out.1,HT.out];rfl,.slice p3 (st.inn.length + 1) q3,vg',?_,?_,?_⟩
       ·rw [HS.out,HN.out.1,HN.out.2]
        exact R12.same fun k hk => jKx (fun e => by
         rcases hn12 k hk with hr | hr
         ·exact (hd5 k hr).2 e
         ·rw [e] at hr
          exact Nat.not_lt_of_le hr hl5)
       ·exact jZa (hg5.then (kB4 hg12) (fun k hk hr => by
         rcases hr with e | e | e | e
         ·exact .inl e
         ·exact .inr (.inl e)
         ·exact .inr (.inr (.inl e))
         ·exact (hv5 k e).elim (fun e => .inr (.inr (.inr e))) (fun e => (Nat.not_lt_of_le e hk).elim))) (Nat.le_refl _)
       ·intro k hr
        rcases hn12 k hr with (e | e | e | e) | e
        ·exact .inl (.inl e)
        ·exact .inl (.inr (.inl e))
        ·exact .inl (.inr (.inr (.inl e)))
        ·exact (hv5 k e).elim (fun e => .inl (.inr (.inr (.inr e)))) .inr
        ·exact .inr (Nat.le_trans hg5.size e)
  ·have hte : jB1 st size = 5:=by rw [ht,if_neg h2]
   have hck : jBp st size = (0,0):=by unfold jBp;rw [if_neg (by rw [hte];decide)]
   have hst : takeS st size = st:=jXj (by rw [hte];decide)
   have HT:=jAa hte
   have HK:=jAa hck
   have HS:=jAa hst
   clear hte hck hst ht h1
   have hbc:=R0.budC
   generalize hW : w.alloc (.cells #[.int .i64 0,.int .i64 0] 92) = W at *
   have HU2 : ∀ k : Nat,Calls Tryz.prog 48 #[.pointer (some ⟨h,0,none⟩)] (W.drewN k) fun e w' => e = .returned (.int .i64 n) ∧ w' = W.drewN k:=fun k => (HU.out (W.drewN k) (R0.same fun _ _ => rfl)).mono fun e w' h => ⟨h.1,h.2.symm⟩
   have HB2 : ∀ k : Nat,Calls Tryz.prog 85 #[.int .i64 (c : Int)] (W.drewN k) fun e w' => e = .returned (.int .i64 m) ∧ w' = W.drewN k:=fun k => (jDc (c : Int) (W.drewN k)).mono fun e w' h => ⟨by rw [h.1,HM.out],h.2.symm⟩
   go_enter Tryz.func111,Tryz.ntmps111
   go_wp2_with (go_at_call 109;refine (jDt size _).mono ?_;rintro e w1 ⟨he,rfl⟩;rw [HC.out,HE.out] at he;subst he)
   go_quiet ((first
    | (go_at_call 48;exact Calls.quiet_of_same (HU2 _))
    | (go_at_call 85;exact Calls.quiet_of_same (HB2 _))))
   obtain ⟨q0,q1⟩:=jIb (show (W.drewN nq).heap[w.heap.size]? = _ from hb0)
   have q2 : (W.drewN nq).frozen? ⟨w.heap.size,0,none⟩ = false:=frozen_of_row _ _ _ _ _ (show (W.drewN nq).heap[w.heap.size]? = _ from hb0)
   have q3 : (W.drewN nq).frozen? ⟨w.heap.size,1,none⟩ = false:=frozen_of_row _ _ _ _ _ (show (W.drewN nq).heap[w.heap.size]? = _ from hb0)
   have R2 : RSl n0 (W.drewN nq) h st vi vg gm:=R0.same fun _ _ => rfl
   have hb2 : (W.drewN nq).heap[w.heap.size]? = some (.cells #[.int .i64 0,.int .i64 0] 92):=hb0
   have hg2 : Gr (jD9 h gm vi vg) w (W.drewN nq):=jHj (Gr.of (show w.grownBy (W.drewN nq) none from ⟨hg0.1,hg0.2,hg0.3,hg0.4,hg0.5⟩)) (fun _ e => by cases e)
   generalize W.drewN nq = W2 at *
   go_wp2
   refine jRu (jTo hb2 _ _) rfl rfl ⟨by rw [HK.out,HT.out];rfl,vi,vg,?_,jZa hg2 (Nat.le_refl _),fun k hk => .inl hk⟩
   rw [HS.out]
   exact R2.same fun k hk => jKx (Nat.ne_of_lt (R.lt k hk))
 ·have he : jBo size = 4:=by rw [HER.out,if_neg h1]
  have hte : jB1 st size = 4:=by rw [HTE.out,if_neg h1]
  have hck : jBp st size = (0,0):=by unfold jBp;rw [if_neg (by rw [hte];decide)]
  have hst : takeS st size = st:=jXj (by rw [hte];decide)
  have HE:=jAa he
  have HT:=jAa hte
  have HK:=jAa hck
  have HS:=jAa hst
  clear he hte hck hst h1 HER HTE
  have hg2 : Gr (jD9 h gm vi vg) w (w.alloc (.cells #[.int .i64 0,.int .i64 0] 92)):=jHj (Gr.of hg0) (fun _ e => by cases e)
  go_enter Tryz.func111,Tryz.ntmps111
  go_wp2_with (go_at_call 109;refine (jDt size _).mono ?_;rintro e w1 ⟨he,rfl⟩;rw [HC.out,HE.out] at he;subst he)
  refine jRu hb0 rfl rfl ⟨by rw [HK.out,HT.out];rfl,vi,vg,?_,hg2,fun k hk => .inl hk⟩
  rw [HS.out]
  exact R0
end
end Go.Proofs.YtkfeafmpaodagaaGreatDoor
