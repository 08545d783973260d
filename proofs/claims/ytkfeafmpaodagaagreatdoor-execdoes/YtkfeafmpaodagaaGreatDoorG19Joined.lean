/- Rows of entries that are put together, by slices.Concat, as package table asks it. Conditions: at most 50000 entries. What is laid of the shelf at this dump, in plain words. Conditions: none. Entries in the order of their texts, by slices.SortFunc, as package table asks it. Conditions: at most 50000 entries. The iterator that All of package table answers. Conditions: at most 50000 entries. -/
import Derived.Test.YtkfeafmpaodagaaGreatDoorG18Joined
import Derived.Shelf.Small.Bits
import Derived.Shelf.Small.Strs
import Derived.Shelf.SlSortCmp.WholeK
import Derived.Shelf.SlSortCmp.NoneTotal
import Derived.Test.YtkfeafmpaodagaaGreatDoorProg
import Derived.Test.YtkfeafmpaodagaaGreatDoorG01Joined
import Derived.Maps.OwnIn
namespace Go.Proofs.YtkfeafmpaodagaaGreatDoor
set_option maxHeartbeats 16000000
set_option maxRecDepth 100000
open Go.RowKit
theorem kOb (w : World) : (Instr.sliceAt 181 (.slice none 0 0) none (some (.int .i64 0)) none).run Tryz.prog w = .ok (.slice none 0 0) w:=by go_simp
theorem kFj (n : Nat) (hn : n ≤ 100000) (w : World) : Calls Tryz.prog 151 #[.slice none 0 0,.int .i64 (n : Nat)] w fun e w' => ∃ v,e = .returned v ∧ w'.ownsRow w.heap.size 184 2 v 0 [] ∧ w.grownBy w' none:=by
 by_cases h0 : n = 0
 ·subst h0
  go_enter Tryz.func151,Tryz.ntmps151
  go_wp2
  go_ret
  exact ⟨_,rfl,World.ownsRow_nil _ _ _ _,jDg _ _⟩
 ·obtain ⟨i0,hi0,hz0,hz1,hz2⟩:=info_parts jJe
  have hr:=Lib.run_append_nil_zeros (P:=Tryz.prog) w 181 3 181 184 i0 (.agg #[.string ⟨#[]⟩,.pointer none]) .i64 .i64 Tryz.underlying181 Tryz.underlying3 hi0 hz0 n (by omega) (by omega) (by omega) (by rw [hz2];omega)
  have hG1:=grownCap_ge w n 0 184
  have hG2:=grownCap_le_maxLen w n 0 184 (by unfold maxLen;omega)
  obtain ⟨G,hG⟩ : ∃ G,grownCap w n 0 184 = G:=⟨_,rfl⟩
  rw [hG] at hr hG1 hG2
  obtain ⟨cs,hcs⟩ : ∃ cs,Builtin.zeroCells (Value.agg #[.string ⟨#[]⟩,.pointer none]).cells n ++ Builtin.zeroCells (Value.agg #[.string ⟨#[]⟩,.pointer none]).cells (G - n) = cs:=⟨_,rfl⟩
  have hsz : cs.size = G * 2:=by
   rw [← hcs,Array.size_append,size_zeroCells,size_zeroCells]
   show n * 2 + (G - n) * 2 = G * 2
   omega
  rw [hcs] at hr
  have HO : Hid ((w.drew.alloc (.cells cs 184)).ownsRow w.heap.size 184 2 (.slice (some ⟨w.heap.size,0,none⟩) 0 G) 0 []) :=
   ⟨rfl,.inr ⟨_,G,cs,rfl,Nat.le_refl _,World.alloc_heap_new w.drew _,Nat.zero_le _,hG2,hsz,rfl⟩⟩
  have hgr : w.grownBy (w.drew.alloc (.cells cs 184)) none:=jAt (b:=w.drew) ⟨rfl,rfl,rfl,Nat.le_refl _,fun _ _ _ => rfl⟩ (World.grownBy_alloc _ _ none)
  have HR:=jAa hr
  have hc:=kOb w
  have e1 : wrap64 ((n : Int) - 0) = (n : Int):=by unfold wrap64;omega
  have hpos : (0 : Int) < (n : Int):=by omega
  have hGi : G ≤ 9223372036854775807:=hG2
  clear hr hcs hsz hG hi0 hz0 hz1 hz2 h0
  go_enter Tryz.func151,Tryz.ntmps151
  go_wp2_with (at_builtin;refine Lib.wpList_append_run _ rfl _ _ _ _ rfl _ _ rfl rfl _ _ HR.out ?_)
  go_ret
  exact ⟨_,rfl,HO.out,hgr⟩
structure jJj (W : World) (va : Value) (n : Nat) (f : Nat → Value) (L : Nat → List Kv) : Prop where
 row : W.ownsRow 0 181 1 va n (jGw n f)
 each : ∀ i,i < n → jKe W (f i) (L i)
 few : (jA4 n L).length ≤ 50000
 most : n ≤ 50000
theorem jJj.step {W W' : World} {va : Value} {n : Nat} {f : Nat → Value} {L : Nat → List Kv} (h : jJj W va n f L) (hg : W.grownBy W' none) : jJj W' va n f L:=⟨jEg h.row hg,fun i hi => jEg (h.each i hi) hg,h.few,h.most⟩
theorem kOs {n j : Nat} {L : Nat → List Kv} (h : j ≤ n) : (jA4 j L).length ≤ (jA4 n L).length:=by
 induction n with
 | zero =>
  obtain rfl : j = 0:=by omega
  exact Nat.le_refl _
 | succ n ih =>
  by_cases e : j = n + 1
  ·rw [e]
   exact Nat.le_refl _
  ·rw [jEx,List.length_append]
   exact Nat.le_trans (ih (by omega)) (Nat.le_add_right _ _)
theorem kN5 {w wr w' : World} {v : Value} {n : Nat} {xs : List Value} (hg : w.grownBy wr none) (hr : wr.ownsRow w.heap.size 184 2 v n xs) (hg' : wr.grownBy w' v.ownBlock) : w.grownBy w' none:=by
 cases hb : v.ownBlock with
 | none =>
  rw [hb] at hg'
  exact jAt hg hg'
 | some k =>
  rw [hb] at hg'
  exact jG6 hg hg' (jCw hr hb).1
theorem kCq {w : World} {va : Value} {n : Nat} {f : Nat → Value} {L : Nat → List Kv} (h : jJj w va n f L) :
  Calls Tryz.prog 115 #[va] w fun e w' => ∃ v,e = .returned v ∧ w'.ownsRow w.heap.size 184 2 v (jA4 n L).length (enV (jA4 n L)) ∧ w.grownBy w' none:=by
 obtain ⟨a,cap,rfl⟩:=jAr h.row
 have H:=jAa h
 have hfew:=h.few
 have hmost:=h.most
 have HG:=jAa (fun W => kFj (jA4 n L).length (by omega) W)
 have HJ : Hid (∀ j,j ≤ n → (jA4 j L).length ≤ (jA4 n L).length):=fun j hj => kOs hj
 clear h
 go_enter Tryz.func115,Tryz.ntmps115
 go_wp2
 go_loopw [3,5,11] (fun s _ i wr => ∃ j : Nat,j ≤ n ∧ i = .int .i64 j ∧ s = .int .i64 ((jA4 j L).length : Nat) ∧ w = wr) (fun _ _ i _ => n - (intOf i).toNat)
 case atStart => exact ⟨0,Nat.zero_le _,rfl,rfl,rfl⟩
 case round =>
  obtain ⟨j,hj,rfl,rfl,rfl⟩:=hrel
  by_cases hlt : j < n
  ·have hji : (j : Int) < (n : Int):=by omega
   obtain ⟨g,cap',e⟩:=jCk H.out.row (by omega)
   cases e
   obtain ⟨c1,-⟩:=jGc H.out.row hlt
   obtain ⟨a2,c2,hf⟩:=jAr (H.out.each j hlt)
   rw [hf] at c1
   have hs : (jA4 (j + 1) L).length = (jA4 j L).length + (L j).length:=by rw [jEx,List.length_append]
   have hle:=HJ.out (j + 1) hlt
   have HS:=jAa hs
   rw [hs] at hle
   obtain ⟨x,hx⟩ : ∃ x,(jA4 j L).length = x:=⟨_,rfl⟩
   obtain ⟨y,hy⟩ : ∃ y,(L j).length = y:=⟨_,rfl⟩
   rw [hx,hy] at hle HS
   rw [hy] at c1
   rw [hx]
   have e1 : wrap64 ((x : Int) + (y : Int)) = (x : Int) + (y : Int):=by unfold wrap64;omega
   have e2 : ¬ ((x : Int) + (y : Int)) < 0:=by omega
   clear hs hx hy hf
   go_wp2
   go_roundw
   case rel => exact ⟨j + 1,hlt,by go_num,by rw [HS.out];rfl,by first | trivial | rfl⟩
   case measure => simp [intOf];omega
  ·obtain rfl : j = n:=by omega
   clear hlt
   go_wp2_with (go_at_call 151;refine (HG.out _).mono ?_;rintro e w1 ⟨v0,rfl,hr0,hg0⟩;replace hr0:=jAa hr0)
   go_loopw [6,8,27] (fun v _ i wr => ∃ j2 : Nat,j2 ≤ j ∧ i = .int .i64 j2 ∧ Hid (wr.ownsRow w.heap.size 184 2 v (jA4 j2 L).length (enV (jA4 j2 L))) ∧ Hid (w.grownBy wr none)) (fun _ _ i _ => j - (intOf i).toNat)
   case atStart => exact ⟨0,Nat.zero_le _,rfl,hr0,hg0⟩
   case round =>
    obtain ⟨j2,hj2,rfl,hr,hg⟩:=hrel
    clear hr0 hg0
    by_cases hlt : j2 < j
    ·have hji : (j2 : Int) < (j : Int):=by omega
     have HC:=H.out.step hg.out
     obtain ⟨g,cap',e⟩:=jCk HC.row (by omega)
     cases e
     obtain ⟨c1,-⟩:=jGc HC.row hlt
     have hs : jA4 (j2 + 1) L = jA4 j2 L ++ L j2:=jEx _ _
     have hle:=HJ.out (j2 + 1) hlt
     have HS:=jAa hs
     rw [hs,List.length_append] at hle
     obtain ⟨v',w2,hrun,ho2,hg2,hat⟩:=jV5 _ w.heap.size 181 hr.out (HC.each j2 hlt) (by omega) hg.out.size
     have HR:=jAa hrun
     have HG2:=jAa (kN5 hg.out hr.out hg2)
     have HO2 : Hid (w2.ownsRow w.heap.size 184 2 v' (jA4 (j2 + 1) L).length (enV (jA4 (j2 + 1) L))):=by
      show World.ownsRow _ _ _ _ _ _ _
      rw [hs,List.length_append,jJ8]
      exact ho2
     clear hrun ho2 hg2 hat hs HC hle
     go_wp2_with (at_builtin;refine Lib.wpList_append_run _ rfl _ _ _ _ rfl _ _ rfl rfl _ _ HR.out ?_)
     go_roundw
     case rel => exact ⟨j2 + 1,hlt,by go_num,HO2,HG2⟩
     case measure => simp [intOf];omega
    ·obtain rfl : j2 = j:=by omega
     clear hlt
     go_wp2
     go_ret
     exact ⟨_,rfl,hr.out,hg.out⟩
end Go.Proofs.YtkfeafmpaodagaaGreatDoor
namespace Go.Proofs
open Go.Shelf
def Tryz.lays125_ren : Go.Shelf.Ren:=⟨fun | 125 => 153 | 128 => 184 | 129 => 185 | n => n,fun | 46 => 215 | 3 => 3 | 51 => 31 | 53 => 22 | 4 => 4 | 5 => 5 | 9 => 9 | n => n,fun | n => n⟩
theorem Tryz.lays125 : Go.Proofs.Lays.n125 Tryz.prog Tryz.lays125_ren:={
 mixed:=by kernel_rfl
 f125:=Tryz.func153.trans (congrArg some (by kernel_rfl))
 f128:=Tryz.func184.trans (congrArg some (by kernel_rfl))
 f129:=Tryz.func185.trans (congrArg some (by kernel_rfl))
 t3:=Tryz.underlying3
 a3:=Tryz.isAgg3
 z3:=Tryz.sizeOf3
 v3:=Tryz.zeroValue3
 t4:=Tryz.underlying4
 a4:=Tryz.isAgg4
 z4:=Tryz.sizeOf4
 v4:=Tryz.zeroValue4
 t5:=Tryz.underlying5
 a5:=Tryz.isAgg5
 z5:=Tryz.sizeOf5
 v5:=Tryz.zeroValue5
 t9:=Tryz.underlying9
 a9:=Tryz.isAgg9
 z9:=Tryz.sizeOf9
 v9:=Tryz.zeroValue9
 t46:=Tryz.underlying215
 a46:=Tryz.isAgg215
 z46:=Tryz.sizeOf215
 v46:=Tryz.zeroValue215
 t51:=Tryz.underlying31
 a51:=Tryz.isAgg31
 z51:=Tryz.sizeOf31
 v51:=Tryz.zeroValue31
 t53:=Tryz.underlying22
 a53:=Tryz.isAgg22
 z53:=Tryz.sizeOf22
 v53:=Tryz.zeroValue22 }
def Tryz.lays106_ren : Go.Shelf.Ren:=⟨fun | 106 => 118 | 213 => 154 | 265 => 186 | n => n,fun | 9 => 9 | 3 => 3 | n => n,fun | n => n⟩
theorem Tryz.lays106 : Go.Proofs.Lays.n106 Tryz.prog Tryz.lays106_ren:={
 mixed:=by kernel_rfl
 f106:=Tryz.func118.trans (congrArg some (by kernel_rfl))
 f213:=Tryz.func154.trans (congrArg some (by kernel_rfl))
 f265:=Tryz.func186.trans (congrArg some (by kernel_rfl))
 t3:=Tryz.underlying3
 a3:=Tryz.isAgg3
 z3:=Tryz.sizeOf3
 v3:=Tryz.zeroValue3
 t9:=Tryz.underlying9
 a9:=Tryz.isAgg9
 z9:=Tryz.sizeOf9
 v9:=Tryz.zeroValue9 }
def Tryz.laysPdq_ren : Go.Shelf.Ren:=⟨fun | 14 => 152 | 20 => 176 | 21 => 177 | 22 => 178 | 23 => 179 | 24 => 180 | 25 => 181 | 26 => 182 | 27 => 183 | 46 => 206 | 47 => 207 | 48 => 208 | 49 => 209 | 50 => 210 | 15 => 153 | 57 => 226 | 28 => 184 | 29 => 185 | n => n,fun | 24 => 184 | 22 => 180 | 3 => 3 | 25 => 187 | 4 => 4 | 0 => 0 | 46 => 233 | 45 => 232 | 50 => 137 | 66 => 254 | 39 => 215 | 55 => 22 | 70 => 257 | 76 => 270 | 77 => 271 | 53 => 31 | 5 => 5 | 9 => 9 | n => n,fun | n => n⟩
theorem Tryz.laysPdq : Go.Proofs.SlLaysF0.n14 Tryz.prog Tryz.laysPdq_ren:={
 mixed:=by kernel_rfl
 f14:=⟨Tryz.f152.name,by decide,Tryz.func152.trans (congrArg some (by kernel_rfl))⟩
 f15:=Tryz.func153.trans (congrArg some (by kernel_rfl))
 f20:=⟨Tryz.f176.name,by decide,Tryz.func176.trans (congrArg some (by kernel_rfl))⟩
 f21:=⟨Tryz.f177.name,by decide,Tryz.func177.trans (congrArg some (by kernel_rfl))⟩
 f22:=⟨Tryz.f178.name,by decide,Tryz.func178.trans (congrArg some (by kernel_rfl))⟩
 f23:=⟨Tryz.f179.name,by decide,Tryz.func179.trans (congrArg some (by kernel_rfl))⟩
 f24:=⟨Tryz.f180.name,by decide,Tryz.func180.trans (congrArg some (by kernel_rfl))⟩
 f25:=⟨Tryz.f181.name,by decide,Tryz.func181.trans (congrArg some (by kernel_rfl))⟩
 f26:=⟨Tryz.f182.name,by decide,Tryz.func182.trans (congrArg some (by kernel_rfl))⟩
 f27:=⟨Tryz.f183.name,by decide,Tryz.func183.trans (congrArg some (by kernel_rfl))⟩
 f28:=Tryz.func184.trans (congrArg some (by kernel_rfl))
 f29:=Tryz.func185.trans (congrArg some (by kernel_rfl))
 f46:=⟨Tryz.f206.name,by decide,Tryz.func206.trans (congrArg some (by kernel_rfl))⟩
 f47:=Tryz.func207.trans (congrArg some (by kernel_rfl))
 f48:=Tryz.func208.trans (congrArg some (by kernel_rfl))
 f49:=⟨Tryz.f209.name,by decide,Tryz.func209.trans (congrArg some (by kernel_rfl))⟩
 f50:=⟨Tryz.f210.name,by decide,Tryz.func210.trans (congrArg some (by kernel_rfl))⟩
 f57:=⟨Tryz.f226.name,by decide,Tryz.func226.trans (congrArg some (by kernel_rfl))⟩
 t0:=Tryz.underlying0
 a0:=Tryz.isAgg0
 z0:=Tryz.sizeOf0
 v0:=Tryz.zeroValue0
 t3:=Tryz.underlying3
 a3:=Tryz.isAgg3
 z3:=Tryz.sizeOf3
 v3:=Tryz.zeroValue3
 t4:=Tryz.underlying4
 a4:=Tryz.isAgg4
 z4:=Tryz.sizeOf4
 v4:=Tryz.zeroValue4
 t5:=Tryz.underlying5
 a5:=Tryz.isAgg5
 z5:=Tryz.sizeOf5
 v5:=Tryz.zeroValue5
 t9:=Tryz.underlying9
 a9:=Tryz.isAgg9
 z9:=Tryz.sizeOf9
 v9:=Tryz.zeroValue9
 t22:=Tryz.underlying180
 a22:=Tryz.isAgg180
 z22:=Tryz.sizeOf180
 v22:=Tryz.zeroValue180
 t25:=Tryz.underlying187
 a25:=Tryz.isAgg187
 z25:=Tryz.sizeOf187
 v25:=Tryz.zeroValue187
 t39:=Tryz.underlying215
 a39:=Tryz.isAgg215
 z39:=Tryz.sizeOf215
 v39:=Tryz.zeroValue215
 t45:=Tryz.underlying232
 a45:=Tryz.isAgg232
 z45:=Tryz.sizeOf232
 v45:=Tryz.zeroValue232
 t46:=Tryz.underlying233
 a46:=Tryz.isAgg233
 z46:=Tryz.sizeOf233
 v46:=Tryz.zeroValue233
 t50:=Tryz.underlying137
 a50:=Tryz.isAgg137
 z50:=Tryz.sizeOf137
 v50:=Tryz.zeroValue137
 t53:=Tryz.underlying31
 a53:=Tryz.isAgg31
 z53:=Tryz.sizeOf31
 v53:=Tryz.zeroValue31
 t55:=Tryz.underlying22
 a55:=Tryz.isAgg22
 z55:=Tryz.sizeOf22
 v55:=Tryz.zeroValue22
 t66:=Tryz.underlying254
 a66:=Tryz.isAgg254
 z66:=Tryz.sizeOf254
 v66:=Tryz.zeroValue254
 t70:=Tryz.underlying257
 a70:=Tryz.isAgg257
 z70:=Tryz.sizeOf257
 v70:=Tryz.zeroValue257
 t76:=Tryz.underlying270
 a76:=Tryz.isAgg270
 z76:=Tryz.sizeOf270
 v76:=Tryz.zeroValue270
 t77:=Tryz.underlying271
 a77:=Tryz.isAgg271
 z77:=Tryz.sizeOf271
 v77:=Tryz.zeroValue271 }
end Go.Proofs
namespace Go.Proofs.YtkfeafmpaodagaaGreatDoor
open Go.RowKit Go.Shelf Go.Lib Go.Sort
def enL (p : Kv) : List Value:=[.string p.1,.pointer (some ⟨Int.toNat p.2,0,none⟩)]
def cfK (x y : Kv) : Int:=Lib.compareBytes x.1.data.toList y.1.data.toList
theorem kEr : ∀ a b : List UInt8,decide (Lib.compareBytes a b < 0) = ltB a b
 | [],[] => rfl
 | [],_ :: _ => rfl
 | _ :: _,[] => rfl
 | a :: l,b :: m => by
  unfold Lib.compareBytes ltB
  by_cases h1 : a < b
  ·rw [if_pos h1,if_pos h1]
   rfl
  ·rw [if_neg h1,if_neg h1]
   by_cases h2 : b < a
   ·rw [if_pos h2,if_pos h2]
    rfl
   ·rw [if_neg h2,if_neg h2]
    exact kEr l m
theorem jWd (x y : Kv) : ltOf cfK x y = ltK x.1 y.1:=kEr _ _
theorem swoK : SWO (ltOf cfK) where
 irrefl x:=by rw [jWd];exact jH7 _
 trans x y z h1 h2:=by rw [jWd] at *;exact jHv h1 h2
 ntrans x y z h1 h2:=by
  rw [jWd] at *
  cases h : ltK x.1 z.1 with
  | false => rfl
  | true =>
   cases h3 : ltK y.1 x.1 with
   | true => rw [jHv h3 h] at h2;cases h2
   | false =>
    have e:=jI0 h1 h3
    rw [e] at h
    rw [h] at h2
    cases h2
theorem jZg (d : Array Kv) : (flatK enL 2 d).toList = enV d.toList:=by
 apply List.ext_getElem?
 intro t
 by_cases ht : t < d.size * 2
 ·have hi : t / 2 < d.toList.length:=by rw [Array.length_toList];omega
  have hp : d.toList[t / 2]? = some d.toList[t / 2]:=List.getElem?_eq_getElem hi
  obtain ⟨k1,k2⟩:=jSn hp
  have hg:=get_flatK enL 2 d t ht
  have hf : (flatK enL 2 d).toList[t]? = some (flatK enL 2 d)[t]!:=by
   rw [Array.getElem?_toList,Array.getElem?_eq_getElem (by rw [size_flatK];exact ht),getElem!_pos _ t (by rw [size_flatK];exact ht)]
  have hd : d[t / 2]! = d.toList[t / 2]:=by
   rw [getElem!_pos d (t / 2) (by rw [← Array.length_toList];exact hi)]
   rfl
  rw [hf,hg,hd]
  rcases Nat.mod_two_eq_zero_or_one t with e | e
  ·have ej : t = t / 2 * 2:=by omega
   rw [← ej] at k1
   rw [k1,e]
   rfl
  ·have ej : t = t / 2 * 2 + 1:=by omega
   rw [← ej] at k2
   rw [k2,e]
   rfl
 ·rw [List.getElem?_eq_none (by rw [Array.length_toList,size_flatK];omega),List.getElem?_eq_none (by rw [jGa,Array.length_toList];omega)]
theorem jVv {w : World} {n0 g cap : Nat} {d : Array Kv} (h : w.ownsRow n0 184 2 (.slice (some ⟨g,0,none⟩) d.size cap) d.size (enV d.toList)) : HoldsK enL 2 w g 0 d:=by
 intro j hj
 have hj' : j < d.size * 2:=by rwa [size_flatK] at hj
 rw [Nat.zero_add]
 refine ⟨?_,World.ownsRow.frozenAt h j⟩
 rw [World.ownsRow.cellAt h j hj',← jZg,Array.getElem?_toList,Array.getElem?_eq_getElem hj,getElem!_pos _ j hj]
 rfl
theorem kCx {w : World} {n0 g cap m : Nat} {d d' : Array Kv} {os : Array Obj} (h : w.ownsRow n0 184 2 (.slice (some ⟨g,0,none⟩) d.size cap) d.size (enV d.toList)) (hs : d'.size = d.size) :
  (sortWorldK enL 2 w g 0 m d' os).ownsRow n0 184 2 (.slice (some ⟨g,0,none⟩) d.size cap) d.size (enV d'.toList) ∧ w.grownBy (sortWorldK enL 2 w g 0 m d' os) (some g):=by
 have hl : (enV d'.toList).length = d.size * 2:=by rw [jGa,Array.length_toList,hs]
 rcases h.2 with ⟨h',_⟩ | ⟨g',cap',cur,h',hb,hg,hnc,hcm,hcs,htake⟩
 ·simp at h'
 ·simp only [Value.slice.injEq,Option.some.injEq,Addr.mk.injEq,and_true,true_and] at h'
  obtain ⟨rfl,rfl⟩:=h'
  have hlt:=(Array.getElem?_eq_some_iff.1 hg).1
  have hsz : (w.heap.modify g (onCells (putCells id 0 (flatK enL 2 d')))).size = w.heap.size:=by simp
  have hh : (sortWorldK enL 2 w g 0 m d' os).heap[g]? = some (.cells (putCells id 0 (flatK enL 2 d') cur) 184 (0,0)):=by
   show (w.heap.modify g (onCells (putCells id 0 (flatK enL 2 d'))) ++ os)[g]? = _
   rw [Array.getElem?_append_left (by rw [hsz];exact hlt),Array.getElem?_modify,if_pos rfl,hg]
   rfl
  refine ⟨⟨hl,.inr ⟨g,cap,_,rfl,hb,hh,hnc,hcm,by unfold putCells;rw [Array.size_mapIdx];exact hcs,?_⟩⟩,⟨rfl,rfl,rfl,?_,fun k hk hne => ?_⟩⟩
  ·apply List.ext_getElem?
   intro t
   rw [List.getElem?_take]
   by_cases ht : t < d.size * 2
   ·have htc : t < cur.size:=by omega
    have htf : t < (flatK enL 2 d').size:=by rw [size_flatK,hs];exact ht
    rw [if_pos ht,← jZg,Array.getElem?_toList,Array.getElem?_toList,Array.getElem?_eq_getElem htf]
    unfold putCells
    rw [Array.getElem?_mapIdx,Array.getElem?_eq_getElem htc]
    show some (if 0 ≤ t ∧ t < 0 + (flatK enL 2 d').size then id (flatK enL 2 d')[t - 0]! else cur[t]) = _
    rw [if_pos ⟨Nat.zero_le _,by omega⟩,Nat.sub_zero,getElem!_pos _ t htf]
    rfl
   ·rw [if_neg ht,List.getElem?_eq_none (by rw [hl];omega)]
  ·show w.heap.size ≤ (w.heap.modify g (onCells (putCells id 0 (flatK enL 2 d'))) ++ os).size
   rw [Array.size_append,hsz]
   omega
  ·show (w.heap.modify g (onCells (putCells id 0 (flatK enL 2 d'))) ++ os)[k]? = _
   rw [Array.getElem?_append_left (by rw [hsz];exact hk),Array.getElem?_modify,if_neg (fun e => hne (by rw [e]))]
theorem kNf (x y : Kv) (W : World) : Calls Tryz.prog 117 #[.agg #[.string x.1,.pointer (some ⟨Int.toNat x.2,0,none⟩)],.agg #[.string y.1,.pointer (some ⟨Int.toNat y.2,0,none⟩)]] W fun e w' => e = .returned (.int .i64 (cfK x y)) ∧ ∃ q os',w' = grow (W.drewN q) os':=by
 have hcon:=fun W' => Any.strings_Compare Tryz.lays106 x.1 y.1 W'
 change ∀ W',Calls Tryz.prog 118 _ _ _ at hcon
 have HC : Hid (∀ W',Calls Tryz.prog 118 #[.string x.1,.string y.1] W' fun e w' => e = .returned (.int .i64 (cfK x y)) ∧ w' = W'):=hcon
 clear hcon
 generalize cfK x y = r at *
 go_enter Tryz.func117,Tryz.ntmps117
 go_wp2_with (go_at_call 118;refine (HC.out _).mono ?_;rintro e w' ⟨rfl,rfl⟩)
 go_ret
 exact ⟨rfl,0,_,by rw [alloc_eq_grow,alloc_eq_grow,grow_grow];rfl⟩
theorem kKh (blk off size : Nat) (w : World) : CmpLays Tryz.prog 117 #[] enL 2 cfK blk off size w:=fun _ _ _ _ x y => kNf x y _
theorem jV4 {l : List Kv} {d' : Array Kv} (hn : jD7 l) (hp : PermIn 0 l.toArray.size l.toArray d') (hs : SortedIn (ltOf cfK) 0 l.toArray.size d') : jCl d'.toList ∧ d'.toList.Perm l:=by
 have hperm : d'.toList.Perm l:=by
  have h:=hp.2.2
  have e1 : d'.extract 0 l.toArray.size = d':=by rw [← hp.1];exact Array.extract_size ..
  have e2 : l.toArray.extract 0 l.toArray.size = l.toArray:=Array.extract_size ..
  rw [e1,e2] at h
  exact h
 refine ⟨?_,hperm⟩
 have hnd:=hn.perm hperm.symm
 unfold jD7 List.Nodup at hnd
 rw [List.pairwise_map] at hnd
 unfold jCl
 rw [List.pairwise_iff_getElem] at hnd ⊢
 intro i j hi hj hij
 have h1:=hs i j (Nat.zero_le _) hij (by rw [← hp.1,← Array.length_toList];exact hj)
 rw [jWd,getElem!_pos d' j (by rw [← Array.length_toList];exact hj),getElem!_pos d' i (by rw [← Array.length_toList];exact hi)] at h1
 have h2:=hnd i j hi hj hij
 cases h3 : ltK d'.toList[i].1 d'.toList[j].1 with
 | true => rfl
 | false => exact absurd (jI0 h3 h1) h2
theorem kLd {F : Nat → Prop} {w0 w : World} {R : jAd} {n0 : Nat} {v : Value} {l : List Kv} (H : jAb F w0 w ((jB2 n0 184 2 v l.length (enV l)).and R)) (hn : jD7 l) (hl : l.length ≤ 50000) :
  Calls Tryz.prog 116 #[v,.func (.func 117) #[] #[]] w fun e w' => e = .returned (.tuple #[]) ∧ ∃ l',jCl l' ∧ l'.Perm l ∧ jAb F w0 w' ((jB2 n0 184 2 v l'.length (enV l')).and R):=by
 have eg : ∀ args w,(callFunc 117 args).run Tryz.prog w = .ok (.enter 117 args) w:=enters_of Tryz.func117 (by kernel_rfl) rfl
 have hb:=fun W => Any.bits_Len Tryz.lays125 (l.length : Int) W (by omega) (by omega)
 change ∀ W,Calls Tryz.prog 153 _ _ _ at hb
 have HB : Hid (∀ W,Calls Tryz.prog 153 #[.int .u64 (l.length : Int)] W fun e w' => e = .returned (.int .i64 (Lib.bitLen l.length : Nat)) ∧ w' = W):=fun W => by
  have h:=hb W
  rwa [Int.toNat_natCast] at h
 have wr : IntKind.u64.wrap (l.length : Int) = l.length:=by simp [IntKind.wrap,IntKind.bits,IntKind.signed];omega
 clear hb
 by_cases h0 : l = []
 ·subst h0
  obtain ⟨a,c,rfl⟩:=jAr H.q.1
  have hp:=fun lim W => AnyF.pdqsortCmpFunc_none (P:=Tryz.prog) (ρ:=Tryz.laysPdq_ren) Tryz.laysPdq a c lim (.func (.func 117) #[] #[]) W
  change ∀ lim W,Calls Tryz.prog 152 _ _ _ at hp
  have HP:=jAa hp
  have HH:=jAa H
  have HB0 : Hid (∀ W,Calls Tryz.prog 153 #[.int .u64 0] W fun e w' => e = .returned (.int .i64 (Lib.bitLen 0 : Nat)) ∧ w' = W):=HB
  clear hp H HB wr
  go_enter Tryz.func116,Tryz.ntmps116
  go_wp2_with (first
   | (go_at_call 153;refine (HB0.out _).mono ?_;rintro e w' ⟨rfl,rfl⟩)
   | (go_at_call 152;refine (HP.out _ _).mono ?_;rintro e w' ⟨rfl,rfl⟩))
  go_end0
  exact ⟨rfl,[],List.Pairwise.nil,List.Perm.refl _,HH.out⟩
 ·have hlen : 0 < l.length:=List.length_pos_iff.2 h0
  obtain ⟨g,cap,rfl⟩:=jCk H.q.1 hlen
  have hrow : w.ownsRow n0 184 2 (.slice (some ⟨g,0,none⟩) l.toArray.size cap) l.toArray.size (enV l.toArray.toList):=H.q.1
  have hblk : g < w.heap.size:=(jCw H.q.1 rfl).2.1
  have hsz : l.toArray.size ≤ 50000:=hl
  have hlim : Lib.bitLen l.toArray.size < 4611686018427387904:=Nat.lt_of_le_of_lt (Lib.bitLen_le l.toArray.size 62 (by omega) (by omega)) (by omega)
  have hp:=AnyQ.pdqsortCmpFunc_all (P:=Tryz.prog) (ρ:=Tryz.laysPdq_ren) Tryz.laysPdq 2 Tryz.isAgg184 Tryz.sizeOf184 enL cfK 117 #[] swoK g 0 cap l.toArray w eg (kKh g 0 l.toArray.size w)
   ⟨fun _ => rfl,fun x v hv => by simp [enL] at hv;rcases hv with rfl | rfl <;> rfl,jVv hrow,hblk⟩ (l.toArray.size + 1) 0 l.toArray.size (Lib.bitLen l.toArray.size) l.toArray w (by omega) rfl (SWK.start (jVv hrow)) (Nat.zero_le _) (Nat.le_refl _) (by omega) hlim (Or.inl rfl)
  change Calls Tryz.prog 152 _ _ _ at hp
  obtain ⟨s1,s2⟩:=pdq_sorts (ltOf cfK) swoK l.toArray 0 l.toArray.size (Lib.bitLen l.toArray.size) true true (Nat.zero_le _) (Nat.le_refl _) (Or.inl rfl)
  obtain ⟨r1,r2⟩:=jV4 hn s1 s2
  have hsz2:=s1.1
  generalize pdq (ltOf cfK) l.toArray 0 l.toArray.size (Lib.bitLen l.toArray.size) true true = d' at *
  have HR:=jAa (fun m os => kCx (m:=m) (os:=os) hrow hsz2)
  have HP : Hid (Calls Tryz.prog 152 #[.slice (some ⟨g,0,none⟩) l.length cap,.int .i64 0,.int .i64 (l.length : Nat),.int .i64 (Lib.bitLen l.length : Nat),.func (.func 117) #[] #[]] w fun e w' => e = .returned (.tuple #[]) ∧ SWK enL 2 w g 0 d' w'):=hp
  have HH:=jAa H
  have hl2 : d'.toList.length = l.length:=r2.length_eq
  clear hp H hrow s1 s2 hn h0 hlen hblk hlim hsz
  go_enter Tryz.func116,Tryz.ntmps116
  go_wp2_with (first
   | (go_at_call 153;refine (HB.out _).mono ?_;rintro e w' ⟨rfl,rfl⟩)
   | (go_at_call 152;refine HP.out.mono ?_;rintro e w' ⟨rfl,m,os,rfl⟩))
  go_end0
  refine ⟨rfl,d'.toList,r1,r2,?_⟩
  obtain ⟨q1,q2⟩:=HR.out m os
  rw [hl2]
  exact HH.out.app0 q1 q2 (.inl rfl)
end Go.Proofs.YtkfeafmpaodagaaGreatDoor
namespace Go.Proofs.YtkfeafmpaodagaaGreatDoor
open Go.RowKit Go.Shelf
attribute [local go_sem] Oper.semAt_some
def KpT (own : Nat → Prop) (w V : World) : Prop:=∀ k,own k → k < V.heap.size ∧ V.heap[k]? = w.heap[k]?
theorem KpT.step {own fp : Nat → Prop} {w V V' : World} (h : KpT own w V) (hg : Gr fp V V') (hf : ∀ k,fp k → k < V.heap.size ∧ ¬ own k) : KpT own w V':=fun k hk => ⟨Nat.lt_of_lt_of_le (h k hk).1 hg.size,(hg.block k (h k hk).1 fun hfk => (hf k hfk).2 hk).trans (h k hk).2⟩
theorem KpT.grown {own : Nat → Prop} {w V V' : World} (h : KpT own w V) (hg : V.grownBy V' none) : KpT own w V':=fun k hk => ⟨Nat.lt_of_lt_of_le (h k hk).1 hg.size,(hg.block k (h k hk).1 (by simp)).trans (h k hk).2⟩
theorem jPg {w : World} {k : Nat} {t : TypeId} {v : Value} (h : w.heap[k]? = some (.cells #[v] t)) : w.cell? ⟨k,0,none⟩ = some v:=by
 simp [World.cell?,h]
theorem kMn (n : Nat) (hn : 1 ≤ n) {w : World} {bv n0 : Nat} {v : Value} {xs : List Kv} (hx : xs.length ≤ 50000) (hbv : w.heap[bv]? = some (.cells #[v] 181)) (hr : w.ownsRow n0 184 2 v xs.length (enV xs)) :
  jHd Fence.wide n Tryz.prog 119 #[.pointer (some ⟨bv,0,none⟩)] jWi (fun _ => jAd.emp) (fun k => k = bv ∨ v.ownBlock = some k) (fun ys => ys = xs) (fun pre => pre <+: xs) w:=by
 intro l J Jx fp0 W hW hJ hJx hfp hY h0
 have hbl : bv < w.heap.size:=(Array.getElem?_eq_some_iff.1 hbv).1
 have K0 : KpT (fun k => k = bv ∨ v.ownBlock = some k) w W:=fun k hk => by
  have hk' : k < w.heap.size:=hk.elim (fun e => e ▸ hbl) fun h => (jCw hr h).2.1
  exact ⟨Nat.lt_of_lt_of_le hk' hW.size,hW.block k hk'⟩
 have r_on : ∀ V,KpT (fun k => k = bv ∨ v.ownBlock = some k) w V → V.ownsRow n0 184 2 v xs.length (enV xs):=fun V hV => jGy hr fun k hk => (hV k (.inr hk)).2
 obtain ⟨a,cap,rfl⟩:=jAr hr
 have c0 : W.cell? ⟨bv,0,none⟩ = some (.slice a xs.length cap):=jPg ((K0 bv (.inl rfl)).2.trans hbv)
 obtain ⟨len,hlen⟩ : ∃ m,xs.length = m:=⟨_,rfl⟩
 rw [hlen] at c0 hx K0 r_on hfp
 refine callsIn_of_wp Tryz.func119 rfl trivial ?_ rfl
 simp only [Tryz.ntmps119,List.size_toArray,List.length_cons,List.length_nil,Nat.reduceAdd,Nat.reduceSub,Array.replicate_succ,Array.replicate_zero,List.push_toArray,List.append_toArray,List.nil_append,List.cons_append]
 gi_wp2
 gi_loopw [4,7] (fun _ i wr => ∃ (k : Nat) (fp : Nat → Prop),k ≤ len ∧ i = .int .i64 k ∧ KpT (fun k => k = bv ∨ (Value.slice a len cap).ownBlock = some k) w wr ∧ J (xs.take k) wr fp) (fun _ i _ => len - (intOf i).toNat)
 case atStart => exact ⟨0,fp0,Nat.zero_le _,rfl,K0,h0⟩
 case round =>
  clear h0 K0 c0
  obtain ⟨k,fp,hk,rfl,K2,h2⟩:=hrel
  by_cases hlt : k < len
  ·have hki : (k : Int) < (len : Int):=by omega
   have hkl : k < xs.length:=by omega
   obtain ⟨g,cap',e⟩:=jCk (r_on _ K2) (by omega)
   cases e
   have hp : xs[k]? = some xs[k]:=List.getElem?_eq_getElem hkl
   obtain ⟨k1,k2⟩:=jSn hp
   have c1:=((r_on _ K2).cellAt (k * 2) (by omega)).trans k1
   have c2:=((r_on _ K2).cellAt (k * 2 + 1) (by omega)).trans k2
   have hga:=World.grownBy_alloc wr (.cells #[.string xs[k].1,.pointer (some ⟨Int.toNat xs[k].2,0,none⟩)] 184) none
   have hfp2:=hfp _ _ _ h2
   have h3:=hJ _ _ (wr.alloc (.cells #[.string xs[k].1,.pointer (some ⟨Int.toNat xs[k].2,0,none⟩)] 184)) _ h2 ⟨hga.1,hga.2,hga.3,hga.4,fun j hj _ => hga.5 j hj (by simp)⟩ (fun j hj => hga.5 j (hfp2 j hj).1 (by simp))
   have K3:=K2.grown hga
   have e1 : xs.take k ++ [xs[k]] = xs.take (k + 1):=by rw [List.take_add_one,List.getElem?_eq_getElem hkl];rfl
   obtain ⟨fn,tmps,assign,body,hy,hR⟩:=hY _ xs[k] _ fp h3 (by rw [e1];exact List.take_prefix _ _) trivial (fun _ h => h.elim)
   rw [e1] at hR
   have hfp3:=hfp _ _ _ h3
   unfold jWi at hy
   clear hp k1 k2 hga hfp2 h2
   generalize xs[k] = x at *
   obtain ⟨x1,x2⟩:=x
   gi_wp2
   refine hR.mono ?_
   rintro e W3 ⟨fp4,g4,-,⟨rfl,h4⟩ | ⟨rfl,h4⟩⟩
   ·have K4:=K3.step g4 hfp3
    gi_wp2
    go_roundw
    case rel => exact ⟨k + 1,fp4,by omega,by go_num,K4,h4⟩
    case measure => simp [intOf];omega
   ·gi_wp2
    refine bodyPost_ret (results_none rfl _ _ _) rfl ?_
    exact ⟨⟨_,rfl⟩,.inr ⟨_,fp4,List.take_prefix _ _,h4⟩⟩
  ·obtain rfl : k = len:=by omega
   have e1 : xs.take k = xs:=List.take_of_length_le (by omega)
   gi_wp2
   go_end0
   exact ⟨⟨_,rfl⟩,.inl ⟨_,fp,e1,h2⟩⟩
end Go.Proofs.YtkfeafmpaodagaaGreatDoor
