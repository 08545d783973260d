/- The contracts of package tiny, over those of packages bloom and sketch. Conditions: texts take at most 300 bytes. The contracts of package tiny, of the program as it stands. Conditions: none. -/
import Derived.Test.YtkfeafmpaodagaaGreatDoorG11Joined
import Derived.Test.YtkfeafmpaodagaaGreatDoorG07Joined
import Derived.Test.YtkfeafmpaodagaaGreatDoorG08Joined
import Derived.Laws.Rows
import Derived.Deep.RegionWith
namespace Go.Proofs.YtkfeafmpaodagaaGreatDoor
set_option maxHeartbeats 16000000
section
open Go.RowKit
variable {Fil : World → Nat → Nat → List Nat → Prop} {Sk : World → Nat → Nat → St → Prop}
structure jE5 (Fil : World → Nat → Nat → List Nat → Prop) (Sk : World → Nat → Nat → St → Prop) (w : World) (b c k sd : Nat) (j : Js) : Prop where
 head : w.heap[b]? = some (.cells #[.pointer (some ⟨c,0,none⟩),.pointer (some ⟨k,0,none⟩)] 116 (0,0))
 fil : Fil w c sd j.1
 sk : Sk w k (sd1 sd) j.2
 bc : b ≠ c
 bk : b ≠ k
 ck : c ≠ k
def Jd0 (Fil : World → Nat → Nat → List Nat → Prop) (Sk : World → Nat → Nat → St → Prop) (w : World) (b : Nat) (bs : List Nat) (sd : Nat) (j : Js) : Prop:=∃ c k,bs = [b,c,k] ∧ jE5 Fil Sk w b c k sd j
section
variable {w w' : World} {b c k sd : Nat} {j : Js}
theorem jE5.lt (h : jE5 Fil Sk w b c k sd j) : b < w.heap.size:=(Array.getElem?_eq_some_iff.1 h.head).1
theorem jE5.cell0 (h : jE5 Fil Sk w b c k sd j) : w.cell? ⟨b,0,none⟩ = some (.pointer (some ⟨c,0,none⟩)):=by rw [cell_of_row w b 0 _ _ _ h.head];rfl
theorem jE5.cell1 (h : jE5 Fil Sk w b c k sd j) : w.cell? ⟨b,1,none⟩ = some (.pointer (some ⟨k,0,none⟩)):=by rw [cell_of_row w b 1 _ _ _ h.head];rfl
theorem jE5.keep (LB : jE8 Fil) (LS : jEi Sk) (h : jE5 Fil Sk w b c k sd j) (hg : w.grownBy w' none) : jE5 Fil Sk w' b c k sd j :=
 { h with head:=(hg.block b h.lt (by simp)).trans h.head,fil:=LB.kept h.fil hg (by simp),sk:=LS.kept h.sk hg (by simp) }
theorem jE5.setF (LS : jEi Sk) {S : List Nat} (h : jE5 Fil Sk w b c k sd j) (hF : Fil w' c sd S) (hg : w.grownBy w' (some c)) : jE5 Fil Sk w' b c k sd (S,j.2) :=
 { h with head:=(hg.block b h.lt (fun e => h.bc (Option.some.inj e))).trans h.head,fil:=hF,sk:=LS.kept h.sk hg (fun e => h.ck (Option.some.inj e)) }
theorem jE5.setK (LB : jE8 Fil) {st : St} (h : jE5 Fil Sk w b c k sd j) (hS : Sk w' k (sd1 sd) st) (hg : w.grownBy w' (some k)) : jE5 Fil Sk w' b c k sd (j.1,st) :=
 { h with head:=(hg.block b h.lt (fun e => h.bk (Option.some.inj e))).trans h.head,fil:=LB.kept h.fil hg (fun e => h.ck (Option.some.inj e).symm),sk:=hS }
end
theorem jPy {w w' : World} {n : Nat} {bs : List Nat} (h : w.grownBy w' (some n)) (hn : n ∈ bs) : Gr (· ∈ bs) w w':=⟨h.1,h.2,h.3,h.4,fun i hi hb => h.5 i hi (fun e => hb (by rw [Option.some.inj e];exact hn))⟩
theorem kNg (LB : jE8 Fil) (LS : jEi Sk) {w w1 w2 : World} {c k sd : Nat} {j : Js} (hc : w.heap.size ≤ c) (hF : Fil w1 c sd j.1) (hg1 : w.grownBy w1 none) (hk : w1.heap.size ≤ k) (hS : Sk w2 k (sd1 sd) j.2) (hg2 : w1.grownBy w2 none) :
  (∀ x ∈ [w2.heap.size,c,k],w.heap.size ≤ x) ∧ Jd0 Fil Sk (w2.alloc (.cells #[.pointer (some ⟨c,0,none⟩),.pointer (some ⟨k,0,none⟩)] 116)) w2.heap.size [w2.heap.size,c,k] sd j ∧ w.grownBy (w2.alloc (.cells #[.pointer (some ⟨c,0,none⟩),.pointer (some ⟨k,0,none⟩)] 116)) none:=by
 have hlc:=LB.lt hF
 have hlk:=LS.lt hS
 have h1:=hg1.size
 have h2:=hg2.size
 refine ⟨fun x hx => ?_,⟨c,k,rfl,heap_alloc_new w2 _,LB.kept (LB.kept hF hg2 (by simp)) (World.grownBy_alloc _ _ none) (by simp),LS.kept hS (World.grownBy_alloc _ _ none) (by simp),by omega,by omega,by omega⟩,jAt (jAt hg1 hg2) (World.grownBy_alloc _ _ _)⟩
 simp only [List.mem_cons,List.not_mem_nil,or_false] at hx
 omega
theorem jd_new (LB : jE8 Fil) (LS : jEi Sk) (sd : Nat) (hd : sd < 18446744073709551616) (w : World) : Calls Tryz.prog 25 #[.int .u64 sd] w fun e w' => ∃ b bs,e = .returned (.pointer (some ⟨b,0,none⟩)) ∧ (∀ k ∈ bs,w.heap.size ≤ k) ∧ Jd0 Fil Sk w' b bs sd jIn ∧ w.grownBy w' none:=by
 have E : IntKind.u64.wrap ((sd : Int) + 1) = ((sd1 sd : Nat) : Int):=by
  unfold sd1
  rw [IntKind.wrap_u64]
  omega
 have hs1 : sd1 sd < 18446744073709551616:=Nat.mod_lt _ (by decide)
 have HF:=jAa (LB.new sd hd w)
 have HN:=jAa (fun W => LS.new (sd1 sd) hs1 W)
 generalize hs : sd1 sd = s1 at *
 go_enter Tryz.func25,Tryz.ntmps25
 go_wp2_with (first
  | (go_at_call 49;refine HF.out.mono ?_;rintro e w1 ⟨c,rfl,hc,hF,hg1⟩)
  | (go_at_call 50;refine (HN.out _).mono ?_;rintro e w2 ⟨k,rfl,hk,hS,hg2⟩))
 go_ret
 rw [← hs] at hS
 exact ⟨_,_,rfl,kNg (j:=jIn) LB LS hc hF hg1 hk hS hg2⟩
theorem jRz (LB : jE8 Fil) (LS : jEi Sk) {w : World} {b c k sd : Nat} {j : Js} (h : jE5 Fil Sk w b c k sd j) (s : ByteArray) (hs : s.size ≤ 140737488351232) :
  Calls Tryz.prog 212 #[.pointer (some ⟨b,0,none⟩),.string s] w fun e w' => e = .returned (.int .i64 (jCt sd j s.data.toList)) ∧ jE5 Fil Sk w' b c k sd j ∧ w.grownBy w' none:=by
 have c1:=h.cell1
 have HC:=jAa (LS.count h.sk s hs)
 have hle:=kIq j.2.1 (jDu (sd1 sd) s.data.toList)
 have HW : Hid (jCt sd j s.data.toList = cnt j.2.1 (jDu (sd1 sd) s.data.toList) + (if jDz j.1 (pls sd s.data.toList) then 1 else 0)):=rfl
 have HH:=jAa (fun (W : World) (hF : Fil W c sd j.1) => LB.has hF s hs)
 generalize cnt j.2.1 (jDu (sd1 sd) s.data.toList) = n at *
 generalize jDz j.1 (pls sd s.data.toList) = q at *
 cases q with
 | true =>
  go_enter Tryz.func212,Tryz.ntmps212
  go_wp2_with (first
   | (go_at_call 228;refine HC.out.mono ?_;clear HC;rintro e w1 ⟨rfl,hS1,hg1⟩;have h1:=h.keep LB LS hg1;have c2:=h1.cell0)
   | (go_at_call 125;refine (HH.out _ h1.fil).mono ?_;rintro e w2 ⟨rfl,hF2,hg2⟩))
  go_ret
  exact ⟨by rw [HW.out];rfl,h1.keep LB LS hg2,jAt hg1 hg2⟩
 | false =>
  go_enter Tryz.func212,Tryz.ntmps212
  go_wp2_with (first
   | (go_at_call 228;refine HC.out.mono ?_;clear HC;rintro e w1 ⟨rfl,hS1,hg1⟩;have h1:=h.keep LB LS hg1;have c2:=h1.cell0)
   | (go_at_call 125;refine (HH.out _ h1.fil).mono ?_;rintro e w2 ⟨rfl,hF2,hg2⟩))
  go_ret
  exact ⟨by rw [HW.out];rfl,h1.keep LB LS hg2,jAt hg1 hg2⟩
theorem kH9 (LB : jE8 Fil) (LS : jEi Sk) {w : World} {b c k sd : Nat} {j : Js} (h : jE5 Fil Sk w b c k sd j) (s t : ByteArray) (hs : s.size ≤ 140737488351232) (ht : t.size ≤ 140737488351232) :
  Calls Tryz.prog 193 #[.pointer (some ⟨b,0,none⟩),.string s,.string t] w fun e w' => e = .returned (.bool (decide (jCt sd j t.data.toList < jCt sd j s.data.toList))) ∧ jE5 Fil Sk w' b c k sd j ∧ w.grownBy w' none:=by
 have H1:=jAa (jRz LB LS h s hs)
 have H2:=jAa (fun (W : World) (hJ : jE5 Fil Sk W b c k sd j) => jRz LB LS hJ t ht)
 generalize jCt sd j s.data.toList = x at *
 generalize jCt sd j t.data.toList = y at *
 go_enter Tryz.func193,Tryz.ntmps193
 go_wp2_with (first
  | (go_at_call 212;refine H1.out.mono ?_;clear H1;rintro e w1 ⟨rfl,h1,hg1⟩)
  | (go_at_call 212;refine (H2.out _ h1).mono ?_;clear H2;rintro e w2 ⟨rfl,h2,hg2⟩))
 go_ret
 exact ⟨rfl,h2,jAt hg1 hg2⟩
theorem kMw (LB : jE8 Fil) (LS : jEi Sk) {w : World} {b c k sd : Nat} {j : Js} (h : jE5 Fil Sk w b c k sd j) (s : ByteArray) (hs : s.size ≤ 140737488351232) :
  Calls Tryz.prog 55 #[.pointer (some ⟨b,0,none⟩),.string s] w fun e w' => (∃ v,e = .returned v) ∧ jE5 Fil Sk w' b c k sd (jKt sd j s.data.toList) ∧ Gr (· ∈ [b,c,k]) w w':=by
 have c0:=h.cell0
 have HA:=jAa (LB.add h.fil s hs)
 have HT : Hid (jKt sd j s.data.toList = if jDz j.1 (pls sd s.data.toList) then (if jDh j.2 then ([],addK (sd1 sd) j.2 s.data.toList) else (jDs j.1 (pls sd s.data.toList),addK (sd1 sd) j.2 s.data.toList)) else (jDs j.1 (pls sd s.data.toList),j.2)):=rfl
 have mc : c ∈ [b,c,k]:=by simp
 have mk : k ∈ [b,c,k]:=by simp
 generalize jDz j.1 (pls sd s.data.toList) = q at *
 cases q with
 | false =>
  go_enter Tryz.func55,Tryz.ntmps55
  go_wp2_with (go_at_call 90;refine HA.out.mono ?_;clear HA;rintro e w1 ⟨rfl,hF1,hg1⟩)
  (try simp only [Exit.inBlock,Exit.then]);(first | refine bodyPost_ret (results_none rfl _ _ _) rfl ?_ | refine bodyPost_end (results_none rfl _ _ _) rfl ?_)
  refine ⟨⟨_,rfl⟩,?_,jPy hg1 mc⟩
  rw [HT.out]
  exact h.setF LS hF1 hg1
 | true =>
  obtain ⟨r,hr⟩ : ∃ r,jDh j.2 = r:=⟨_,rfl⟩
  have HR:=jAa hr
  rw [hr] at HT
  clear hr
  cases r with
  | false =>
   go_enter Tryz.func55,Tryz.ntmps55
   go_wp2_with (first
    | (go_at_call 90;refine HA.out.mono ?_;clear HA;rintro e w1 ⟨rfl,hF1,hg1⟩;have h1:=h.setF LS hF1 hg1;have c1:=h1.cell1)
    | (go_at_call 91;refine (LS.add h1.sk s hs).mono ?_;rintro e w2 ⟨he,hS2,hg2⟩;rw [HR.out] at he;subst he;have h2:=h1.setK LB hS2 hg2))
   go_end0
   refine ⟨⟨_,rfl⟩,?_,(jPy hg1 mc).trans (jPy hg2 mk)⟩
   rw [HT.out]
   exact h2
  | true =>
   go_enter Tryz.func55,Tryz.ntmps55
   go_wp2_with (first
    | (go_at_call 90;refine HA.out.mono ?_;clear HA;rintro e w1 ⟨rfl,hF1,hg1⟩;have h1:=h.setF LS hF1 hg1;have c1:=h1.cell1)
    | (go_at_call 91;refine (LS.add h1.sk s hs).mono ?_;rintro e w2 ⟨he,hS2,hg2⟩;rw [HR.out] at he;subst he;have h2:=h1.setK LB hS2 hg2;have c2:=h2.cell0)
    | (go_at_call 92;refine (LB.clear h2.fil).mono ?_;rintro e w3 ⟨⟨v,rfl⟩,hF3,hg3⟩;have h3:=h2.setF LS hF3 hg3))
   go_end0
   refine ⟨⟨_,rfl⟩,?_,((jPy hg1 mc).trans (jPy hg2 mk)).trans (jPy hg3 mc)⟩
   rw [HT.out]
   exact h3
theorem kOa (LB : jE8 Fil) (LS : jEi Sk) : jT7 (Jd0 Fil Sk) where
 lt:=by
  rintro w b bs sd j ⟨c,k,rfl,h⟩ x hx
  simp only [List.mem_cons,List.not_mem_nil,or_false] at hx
  rcases hx with rfl | rfl | rfl
  ·exact h.lt
  ·exact LB.lt h.fil
  ·exact LS.lt h.sk
 good:=by
  rintro w b bs sd j ⟨c,k,rfl,h⟩
  exact ⟨⟨(LB.good h.fil).1,(LS.good h.sk).1⟩,(LB.good h.fil).2⟩
 keep:=by
  rintro w w' b bs sd j ⟨c,k,rfl,h⟩ hs
  exact ⟨c,k,rfl,{ h with head:=(hs b (by simp)).trans h.head,fil:=LB.keep h.fil (hs c (by simp)),sk:=LS.keep h.sk (hs k (by simp)) }⟩
 new:=jd_new LB LS
 touch:=by
  rintro w b bs sd j ⟨c,k,rfl,h⟩ s hs
  exact (kMw LB LS h s hs).mono fun _ _ ⟨h1,h2,h3⟩ => ⟨h1,⟨c,k,rfl,h2⟩,h3⟩
 worth:=by
  rintro w b bs sd j ⟨c,k,rfl,h⟩ s hs
  exact (jRz LB LS h s hs).mono fun _ _ ⟨h1,h2,h3⟩ => ⟨h1,⟨c,k,rfl,h2⟩,h3⟩
 admits:=by
  rintro w b bs sd j ⟨c,k,rfl,h⟩ s t hs ht
  exact (kH9 LB LS h s t hs ht).mono fun _ _ ⟨h1,h2,h3⟩ => ⟨h1,⟨c,k,rfl,h2⟩,h3⟩
end
section
theorem kLp : jT7 (Jd0 jF8 Sk0):=kOa kHd kCj
end
end Go.Proofs.YtkfeafmpaodagaaGreatDoor
