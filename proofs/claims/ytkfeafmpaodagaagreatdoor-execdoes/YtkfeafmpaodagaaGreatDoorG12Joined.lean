/- The contracts of package slab, out of the program's own text. Conditions: none. The contracts of package slab: New and Free. Conditions: none. -/
import Derived.Test.YtkfeafmpaodagaaGreatDoorG11Joined
import Derived.Test.YtkfeafmpaodagaaGreatDoorG10Joined
import Derived.DeepKeys4
import Derived.Deep.CutBlock
import Derived.Deep.CutRange
import Derived.Deep.QuietTactic
import Derived.BigQuiet
namespace Go.Proofs.YtkfeafmpaodagaaGreatDoor
set_option maxHeartbeats 16000000
set_option maxRecDepth 100000
section
open Go.RowKit Go.Maps
theorem jUu : (92 : TypeId) < Tryz.prog.types.size:=of_decide_eq_true (by kernel_rfl)
theorem kD9 : (match Tryz.prog.underlying 92 with | some (.array _ _) | some (.struct _) => true | _ => false) = true:=by rw [Tryz.underlying92]
theorem jHl : Keyed Tryz.prog 92:=Keyed.of_law (deep_law_laid jTy (m:=2) (by omega) jUu (by kernel_rfl) kD9)
def jM8 (c : Ck) : Lit:=.string (keyBytes [.int .i64 c.1,.int .i64 c.2])
theorem jQy (d : Nat) (a : Int) (h : I64 a) : Tryz.prog.keyLits (d + 1) 3 [.int .i64 a] = some [.int .i64 a]:=by
 unfold Program.keyLits
 rw [Tryz.underlying3]
 have hw : (Lit.int .i64 a).wf = true:=by
  have h1:=h.1
  have h2:=h.2
  have e1 : IntKind.i64.min = -9223372036854775808:=rfl
  have e2 : IntKind.i64.max = 9223372036854775807:=rfl
  simp [Lit.wf,e1,e2]
  omega
 simp [hw]
theorem jHb (c : Ck) (h : jJl c) : keyOf Tryz.prog 92 (ckV c) = some (jM8 c):=by
 have hk : Tryz.prog.keyType 92 = true:=by kernel_rfl
 have hc : Tryz.prog.cellsOf 92 = 2:=by kernel_rfl
 have ci : Tryz.prog.cellsOf 3 = 1:=by kernel_rfl
 have hf : (ckV c).formed Tryz.prog 92 = true:=by simp [ckV,Value.formed,Tryz.underlying92,hc]
 obtain ⟨m,hm⟩ : ∃ m,Tryz.prog.types.size = m + 1:=⟨_,(Nat.succ_pred_eq_of_pos (Nat.lt_of_le_of_lt (Nat.zero_le _) jUu)).symm⟩
 have hl : Tryz.prog.keyLits (Tryz.prog.types.size + 1) 92 (ckV c).cells.toList = some [.int .i64 c.1,.int .i64 c.2]:=by
  unfold Program.keyLits
  rw [Tryz.underlying92,hm]
  have e : (ckV c).cells.toList = [.int .i64 c.1,.int .i64 c.2]:=by simp [ckV,Value.cells]
  rw [e]
  simp [hc,ci,jQy m c.1 h.1,jQy m c.2 h.2]
 unfold keyOf
 rw [Tryz.underlying92]
 show (if (Tryz.prog.keyType 92 && (ckV c).formed Tryz.prog 92) = true then _ else none) = _
 rw [hk,hf,hl]
 rfl
theorem jWs {c d : Ck} (hc : jJl c) (hd : jJl d) (h : jM8 c = jM8 d) : c = d:=by
 have:=jHl.inj (jHb c hc) (h ▸ jHb d hd)
 unfold ckV at this
 simp at this
 exact Prod.ext this.1 this.2
theorem kG9 (w : World) : (zeroValue 252).run Tryz.prog w = .ok (.agg #[]) w:=by kernel_rfl
def jEn (bud used : Int) (fs : Nat → Value) (ms : List Nat) (bm : Nat) : Array Value :=
 #[.int .i64 bud,.int .i64 used,.map (some bm),fs 0,fs 1,fs 2,fs 3,fs 4,fs 5,.int .i64 (ms.getD 0 0 : Nat),.int .i64 (ms.getD 1 0 : Nat),.int .i64 (ms.getD 2 0 : Nat),.int .i64 (ms.getD 3 0 : Nat),.int .i64 (ms.getD 4 0 : Nat),.int .i64 (ms.getD 5 0 : Nat)]
def jBu (st : Sb) (k : Nat) : List Int:=(st.gone.filter fun c => decide (c.1 = (k : Int))).map (·.2)
def jIf (l : List Int) : List Value:=l.map (Value.int .i64)
abbrev jGm (st : Sb) (fs : Nat → Value) (i : Nat) : jAd:=jB2 0 3 1 (fs i) (jBu st i).length (jIf (jBu st i))
abbrev setP (bm : Nat) (D : DataW Unit) : jAd:=jTj Tryz.prog 92 unitElem bm D
def jFm (b bm : Nat) (D : DataW Unit) (fs : Nat → Value) (st : Sb) : jAd :=
 (jAn b (.cells (jEn st.bud (jBn st) fs st.made bm) 104)).and ((setP bm D).and ((jD6 (· < 6) (jGm st fs)).and jAd.emp))
structure jMx (D : DataW Unit) (st : Sb) : Prop where
 has : ∀ c,jJl c → Maps.has D (jM8 c) = decide (c ∈ st.inn)
 size : Maps.size D = st.inn.length
def Sl0 (w : World) (b : Nat) (own : Nat → Prop) (st : Sb) : Prop :=
 ∃ bm D fs,own = (jFm b bm D fs st).own ∧ (jFm b bm D fs st).q w ∧ (∀ k,own k → k < w.heap.size) ∧ jMx D st ∧ jDo st ∧ I64 st.bud
theorem Sl0.law {w : World} {b : Nat} {own : Nat → Prop} {st : Sb} (h : Sl0 w b own st) : ∃ bm D fs,jMx D st ∧ jAb own w w (jFm b bm D fs st):=by
 obtain ⟨bm,D,fs,rfl,h2,h3,h4,_⟩:=h
 exact ⟨bm,D,fs,h4,jAb.start h2 h3⟩
theorem jB8 {w : World} {b bm : Nat} {bud used : Int} {fs : Nat → Value} {ms : List Nat} {t : TypeId} (h : w.heap[b]? = some (.cells (jEn bud used fs ms bm) t (0,0))) : w.cell? ⟨b,0,none⟩ = some (.int .i64 bud) ∧ w.cell? ⟨b,1,none⟩ = some (.int .i64 used) ∧ w.cell? ⟨b,2,none⟩ = some (.map (some bm)) ∧ ∀ k,k < 6 → w.cell? ⟨b,3 + k,none⟩ = some (fs k) ∧ w.cell? ⟨b,9 + k,none⟩ = some (.int .i64 (ms.getD k 0 : Nat)):=by
 refine ⟨by simp [World.cell?,h,jEn],by simp [World.cell?,h,jEn],by simp [World.cell?,h,jEn],fun k hk => ?_⟩
 have : k = 0 ∨ k = 1 ∨ k = 2 ∨ k = 3 ∨ k = 4 ∨ k = 5:=by omega
 rcases this with rfl | rfl | rfl | rfl | rfl | rfl <;> simp [World.cell?,h,jEn]
theorem jCr {w : World} {k : Nat} {t : TypeId} {x y : Value} (h : w.heap[k]? = some (.cells #[x,y] t (0,0))) : w.cell? ⟨k,0,none⟩ = some x ∧ w.cell? ⟨k,1,none⟩ = some y:=by
 simp [World.cell?,h]
theorem jVn {w : World} {bm : Nat} {D : DataW Unit} {x : Value} {kl : Lit} {q : Bool} (h : (setP bm D).q w) (hk : keyOf Tryz.prog 92 x = some kl) (hq : Maps.has D kl = q) : (Instr.lookup 99 (.map (some bm)) x true).run Tryz.prog w = .ok (.tuple #[.agg #[],.bool q]) w:=by
 have h' : w.ownsMap Tryz.prog 92 unitElem bm (Maps.size D) D:=h
 obtain ⟨v,ps,hrun,hv⟩:=h'.look_ok jHl Tryz.underlying99 (kG9 w) unitElem_mk hk
 obtain ⟨rfl,_⟩:=unitElem_inv hv
 rw [hrun,hq]
theorem jTz {w : World} {b : Nat} {own : Nat → Prop} {st : Sb} (h : Sl0 w b own st) (c : Ck) (hc : jJl c) :
  Calls Tryz.prog 170 #[.pointer (some ⟨b,0,none⟩),ckV c] w fun e w' => e = .returned (.bool (decide (c ∈ st.inn))) ∧ w.grownBy w' none:=by
 obtain ⟨bm,D,fs,T,L⟩:=h.law
 have HK:=jAa (jHb c hc)
 have HD:=jAa (T.has c hc)
 clear T h
 unfold ckV at *
 have L1:=((L.box (.cells #[.int .i64 c.1,.int .i64 c.2] 92))).drew
 obtain ⟨-,-,c14,-⟩:=jB8 L1.q.2.1.1
 obtain ⟨d0,d1⟩:=jCr L1.q.1
 have L2:=((L.box (.cells #[.int .i64 c.1,.int .i64 c.2] 92)).alloc (.cells #[] 252)).drew
 obtain ⟨-,-,c14',-⟩:=jB8 L2.q.2.1.1
 obtain ⟨d0',d1'⟩:=jCr L2.q.1
 have r1:=jVn L1.q.2.1.2.1.1 HK.out HD.out
 have r2:=jVn L2.q.2.1.2.1.1 HK.out HD.out
 have hg2 : w.grownBy ((w.alloc (.cells #[.int .i64 c.1,.int .i64 c.2] 92)).alloc (.cells #[] 252)).drew none:=jAt (jAt (World.grownBy_alloc w _ none) (World.grownBy_alloc _ _ none)) ⟨rfl,rfl,rfl,Nat.le_refl _,fun _ _ _ => rfl⟩
 generalize decide (c ∈ st.inn) = q at *
 clear HK HD L L1 L2
 go_enter Tryz.func170,Tryz.ntmps170
 go_upto_region 1 with fail
 go_region_held (fun w' => w'.cell? ⟨b,2,none⟩ = some (.map (some bm)) ∧ w'.cell? ⟨w.heap.size,0,none⟩ = some (.int .i64 c.1) ∧ w'.cell? ⟨w.heap.size,1,none⟩ = some (.int .i64 c.2)) (first | exact ⟨c14,d0,d1⟩ | exact ⟨c14',d0',d1'⟩) (fail)
 all_goals
  go_wp2
  go_ret
  exact ⟨rfl,hg2⟩
theorem jLw {a : Int} (h : -9223372036854775808 ≤ a ∧ a < 9223372036854775808) : wrap64 a = a:=by unfold wrap64;omega
theorem jI1 (k : Int) (w : World) : Calls Tryz.prog 171 #[.int .i64 k] w fun e w' => e = .returned (.int .i64 (jAu k)) ∧ w' = w:=by
 by_cases h0 : k < 0
 ·have e : jAu k = 0:=by unfold jAu;repeat' split;all_goals omega
  rw [e]
  go_enter Tryz.func171,Tryz.ntmps171
  go_wp2
  go_ret
  exact ⟨rfl,rfl⟩
 ·by_cases h6 : 6 ≤ k
  ·have e : jAu k = 0:=by unfold jAu;repeat' split;all_goals omega
   rw [e]
   go_enter Tryz.func171,Tryz.ntmps171
   go_wp2
   go_ret
   exact ⟨rfl,rfl⟩
  ·have hc : k = 0 ∨ k = 1 ∨ k = 2 ∨ k = 3 ∨ k = 4 ∨ k = 5:=by omega
   clear h0 h6
   rcases hc with rfl | rfl | rfl | rfl | rfl | rfl
   all_goals
    go_enter Tryz.func171,Tryz.ntmps171
    go_wp2
    go_ret
    exact ⟨rfl,rfl⟩
theorem cls_at {size : Int} {k : Nat} (hk : k < 6) (h1 : ∀ j : Nat,j < k → jAu j < size) (h2 : size ≤ jAu k) : jA1 size = k ∧ jBo size = 0:=by
 have : k = 0 ∨ k = 1 ∨ k = 2 ∨ k = 3 ∨ k = 4 ∨ k = 5:=by omega
 rcases this with rfl | rfl | rfl | rfl | rfl | rfl
 ·have h2 : size ≤ 64:=h2
  unfold jA1 jBo
  repeat' split
  all_goals omega
 all_goals
  have e0:=h1 0 (by omega)
  try have e1:=h1 1 (by omega)
  try have e2:=h1 2 (by omega)
  try have e3:=h1 3 (by omega)
  try have e4:=h1 4 (by omega)
  simp only [jAu] at *
  simp at *
  unfold jA1 jBo
  repeat' split
  all_goals omega
theorem kOf {size : Int} (h1 : ∀ j : Nat,j < 6 → jAu j < size) : jA1 size = 0 ∧ jBo size = 4:=by
 have e5 : (2048 : Int) < size:=h1 5 (by omega)
 unfold jA1 jBo
 repeat' split
 all_goals omega
theorem jGk (size : Int) (w : World) : Calls Tryz.prog 162 #[.int .i64 size] w fun e w' => e = .returned (.tuple #[.int .i64 (jA1 size),.int .i64 (jBo size)]) ∧ w' = w:=by
 go_enter Tryz.func162,Tryz.ntmps162
 go_wp2
 go_loopw [5] (fun i wr => ∃ k : Nat,k ≤ 6 ∧ i = .int .i64 k ∧ (∀ j : Nat,j < k → jAu j < size) ∧ wr = w) (fun i _ => 6 - (intOf i).toNat)
 case atStart => exact ⟨0,Nat.zero_le _,rfl,fun j hj => by omega,rfl⟩
 case round =>
  obtain ⟨k,hk,rfl,hall,rfl⟩:=hrel
  by_cases hlt : k < 6
  ·have hki : (k : Int) < 6:=by omega
   by_cases h2 : size ≤ jAu k
   ·have HC:=jAa (cls_at hlt hall h2)
    clear hall
    go_wp2_with (go_at_call 171;refine (jI1 k _).mono ?_;rintro e w1 ⟨rfl,rfl⟩)
    go_ret2
    exact ⟨by rw [HC.out.1,HC.out.2];rfl,rfl⟩
   ·have HC : Hid (∀ j : Nat,j < k + 1 → jAu j < size):=fun j hj => by
     by_cases e : j = k
     ·rw [e];exact Int.not_le.1 h2
     ·exact hall j (by omega)
    have h3 : jAu k < size:=Int.not_le.1 h2
    clear hall h2
    go_wp2_with (go_at_call 171;refine (jI1 k _).mono ?_;rintro e w1 ⟨rfl,rfl⟩)
    go_roundw
    case rel => exact ⟨k + 1,by omega,by go_num,HC.out,by first | trivial | rfl⟩
    case measure => simp [intOf];omega
  ·obtain rfl : k = 6:=by omega
   have HC:=jAa (kOf hall)
   clear hall
   go_wp2
   go_ret2
   exact ⟨by rw [HC.out.1,HC.out.2];rfl,rfl⟩
theorem kLn {w : World} {b : Nat} {own : Nat → Prop} {st : Sb} (h : Sl0 w b own st) : Calls Tryz.prog 84 #[.pointer (some ⟨b,0,none⟩)] w fun e w' => e = .returned (.int .i64 (jBn st)) ∧ w' = w:=by
 obtain ⟨bm,D,fs,T,L⟩:=h.law
 obtain ⟨-,c1,-⟩:=jB8 L.q.1
 go_enter Tryz.func84,Tryz.ntmps84
 go_wp2
 go_ret
 exact ⟨rfl,rfl⟩
theorem jRa {w : World} {b : Nat} {own : Nat → Prop} {st : Sb} (h : Sl0 w b own st) (hs : Small st 10000) (size less : Int) (hl : I64 less) : Calls Tryz.prog 192 #[.pointer (some ⟨b,0,none⟩),.int .i64 size,.int .i64 less] w fun e w' => e = .returned (.bool (jB3 st size less)) ∧ w.grownBy w' none:=by
 have hgo : (st.inn = [] ∨ jBn st ≤ st.bud) ∧ I64 st.bud:=by obtain ⟨_,_,_,_,_,_,_,hg,hb⟩:=h;exact ⟨hg.bud,hb⟩
 have hub : jBn st = 0 ∨ jBn st ≤ st.bud:=hgo.1.imp (fun e => by unfold jBn;rw [e];rfl) id
 have hbi:=hgo.2
 clear hgo
 obtain ⟨bm,D,fs,T,L⟩:=h.law
 obtain ⟨c0,c1,-⟩:=jB8 L.q.1
 have hu:=jId hs
 have hb0:=jDk (jA1 size)
 have hb1:=jGr (jA1 size)
 have HF : Hid (jB3 st size less = decide (size ≤ 2048 ∧ 0 ≤ less ∧ less ≤ jBn st ∧ jBn st - less + jAu (jA1 size) ≤ st.bud)):=rfl
 obtain ⟨er,he⟩ : ∃ e,jBo size = e:=⟨_,rfl⟩
 obtain ⟨cl,hcl⟩ : ∃ c,jA1 size = c:=⟨_,rfl⟩
 have her : (er = 0 ∧ size ≤ 2048) ∨ (er = 4 ∧ 2048 < size):=by
  rw [← he]
  unfold jBo
  split
  ·exact .inl ⟨rfl,by assumption⟩
  ·exact .inr ⟨rfl,by omega⟩
 rw [hcl] at HF hb0 hb1
 generalize jBn st = u at *
 obtain ⟨by_,hby⟩ : ∃ x,jAu cl = x:=⟨_,rfl⟩
 rw [hby] at HF hb0 hb1
 have HB:=jAa hby
 have HE:=jAa he
 have HC:=jAa hcl
 clear he hcl hby h T
 unfold I64 at hl hbi
 rcases her with ⟨rfl,h1⟩ | ⟨rfl,h1⟩
 ·by_cases h2 : less < 0
  ·have HF0 : Hid (jB3 st size less = false):=HF.out.trans (decide_eq_false (by omega))
   go_enter Tryz.func192,Tryz.ntmps192
   go_wp2_with (go_at_call 162;refine (jGk size _).mono ?_;rintro e w1 ⟨he,hw⟩;rw [HC.out,HE.out] at he;subst he;subst hw)
   go_ret
   exact ⟨by rw [HF0.out];rfl,jDg _ _⟩
  ·by_cases h3 : u < less
   ·have HF0 : Hid (jB3 st size less = false):=HF.out.trans (decide_eq_false (by omega))
    go_enter Tryz.func192,Tryz.ntmps192
    go_wp2_with (go_at_call 162;refine (jGk size _).mono ?_;rintro e w1 ⟨he,hw⟩;rw [HC.out,HE.out] at he;subst he;subst hw)
    go_ret
    exact ⟨by rw [HF0.out];rfl,jDg _ _⟩
   ·have h2' : 0 ≤ less:=Int.not_lt.1 h2
    have h3' : less ≤ u:=Int.not_lt.1 h3
    have e1 : wrap64 (u - less) = u - less:=jLw (by omega)
    have e2 : wrap64 (st.bud - (u - less)) = st.bud - (u - less):=jLw (by omega)
    have HD : Hid (jB3 st size less = decide (by_ ≤ st.bud - (u - less))):=HF.out.trans (decide_eq_decide.2 ⟨fun h => by omega,fun h => by omega⟩)
    clear h2 h3
    go_enter Tryz.func192,Tryz.ntmps192
    go_upto_region 4 with (go_at_call 162;refine (jGk size _).mono ?_;rintro e w1 ⟨he,hw⟩;rw [HC.out,HE.out] at he;subst he;subst hw)
    go_quiet ((go_at_call 171;refine Calls.quiet_of_same ((jI1 (cl : Int) _).mono fun e w' h => ⟨by rw [h.1,HB.out],h.2⟩)))
    go_wp2
    go_ret
    refine ⟨by rw [HD.out];rfl,⟨rfl,rfl,rfl,Nat.le_refl _,fun _ _ _ => rfl⟩⟩
 ·have HF0 : Hid (jB3 st size less = false):=HF.out.trans (decide_eq_false (by omega))
  go_enter Tryz.func192,Tryz.ntmps192
  go_wp2_with (go_at_call 162;refine (jGk size _).mono ?_;rintro e w1 ⟨he,hw⟩;rw [HC.out,HE.out] at he;subst he;subst hw)
  go_ret
  exact ⟨by rw [HF0.out];rfl,jDg _ _⟩
end
section
open Go.RowKit Go.Maps
theorem kKo : (Tryz.prog.info? 3).map (fun i => (i.zero,i.size,i.bytes)) = some (some (.int .i64 0),1,8):=by kernel_rfl
theorem Sl0.of {F : Nat → Prop} {w0 w : World} {b bm : Nat} {D : DataW Unit} {fs : Nat → Value} {st : Sb} (L : jAb F w0 w (jFm b bm D fs st)) (T : jMx D st) (G : jDo st) (I : I64 st.bud) : Sl0 w b (jFm b bm D fs st).own st:=⟨bm,D,fs,rfl,L.q,fun k hk => (L.lt k hk).1,T,G,I⟩
theorem kJa (bud : Int) : jMx (.map []) (jEt bud):=⟨fun _ _ => rfl,rfl⟩
theorem kLu (bud : Int) (hb : I64 bud) (w : World) : Calls Tryz.prog 23 #[.int .i64 bud] w fun e w' => ∃ b own,e = .returned (.pointer (some ⟨b,0,none⟩)) ∧ (∀ k,own k → w.heap.size ≤ k) ∧ Sl0 w' b own (jEt bud) ∧ w.grownBy w' none:=by
 have L1:=(jAb.bare w).many0 (I:=(· < 6)) (A:=jGm (jEt bud) (fun _ => .slice none 0 0)) (fun i _ => World.ownsRow_nil _ _ _ _) (fun i k hk => by cases hk)
 have L2:=L1.mapNew (P:=Tryz.prog) (k:=92) (R:=unitElem (H:=Unit))
 have L3:=L2.box (.cells (jEn bud 0 (fun _ => .slice none 0 0) [0,0,0,0,0,0] w.heap.size) 104)
 rw [World.size_alloc] at L3
 have hmm:=@run_makeMap Tryz.prog
 go_enter Tryz.func23,Tryz.ntmps23
 go_wp2
 go_ret
 refine ⟨_,rfl,_,?_,Sl0.of (st:=jEt bud) L3 (kJa bud) (jQw bud) hb,?_⟩
 ·intro k hk
  exact (L3.lt k hk).2.elim (fun h => h.elim) id
 ·exact L3.gr.to (fun k h => h.elim)
def upd (fs : Nat → Value) (k : Nat) (v : Value) : Nat → Value:=fun j => if j = k then v else fs j
theorem jR6 (bud used : Int) (fs : Nat → Value) (ms : List Nat) (bm k : Nat) (hk : k < 6) (v : Value) : (jEn bud used fs ms bm).setIfInBounds (3 + k) v = jEn bud used (upd fs k v) ms bm:=by
 have : k = 0 ∨ k = 1 ∨ k = 2 ∨ k = 3 ∨ k = 4 ∨ k = 5:=by omega
 rcases this with rfl | rfl | rfl | rfl | rfl | rfl <;> simp [jEn,upd]
theorem jSi (bud used : Int) (fs : Nat → Value) (ms : List Nat) (bm : Nat) (u : Int) : (jEn bud used fs ms bm).setIfInBounds 1 (.int .i64 u) = jEn bud u fs ms bm:=by simp [jEn]
theorem kNo {D : DataW Unit} {st : Sb} (T : jMx D st) (G : jDo st) (hm : Maps.Tidy D) {c : Ck} (hc : jJl c) (hin : c ∈ st.inn) : jMx (D.del (jM8 c)) (jBj st c):=by
 have hnd:=(List.nodup_append.1 G.nodup).1
 have hi : (jBj st c).inn = st.inn.erase c:=by unfold jBj;rw [if_pos hin]
 refine ⟨fun d hd => ?_,?_⟩
 ·rw [hi]
  by_cases e : d = c
  ·subst e
   rw [has_del_same]
   exact (decide_eq_false (fun h => (List.Nodup.mem_erase_iff hnd).1 h |>.1 rfl)).symm
  ·rw [has_del_other (fun h => e (jWs hd hc h)),T.has d hd]
   exact decide_eq_decide.2 ⟨fun h => (List.Nodup.mem_erase_iff hnd).2 ⟨e,h⟩,fun h => List.mem_of_mem_erase h⟩
 ·have h1:=size_del (k:=jM8 c) hm
  rw [T.has c hc,decide_eq_true hin,T.size] at h1
  rw [hi,List.length_erase_of_mem hin]
  simp at h1
  omega
theorem kFk {st : Sb} {k : Nat} {no : Int} (hin : ((k : Int),no) ∈ st.inn) (j : Nat) : jBu (jBj st ((k : Int),no)) j = if j = k then jBu st j ++ [no] else jBu st j:=by
 unfold jBu jBj
 rw [if_pos hin]
 show (((st.gone ++ [((k : Int),no)]).filter _).map _) = _
 rw [List.filter_append,List.map_append]
 by_cases e : j = k
 ·subst e
  simp
 ·rw [if_neg e]
  have : ¬ ((k : Int) = (j : Int)):=by omega
  simp [this]
theorem jRl (l : List Int) (x : Int) : jIf (l ++ [x]) = jIf l ++ [.int .i64 x]:=by simp [jIf]
theorem kHx {st : Sb} {fs : Nat → Value} {k : Nat} {no : Int} {v : Value} (hin : ((k : Int),no) ∈ st.inn) : jJt (jGm st fs) k (jB2 0 3 1 v ((jBu st k).length + 1) (jIf (jBu st k) ++ [.int .i64 no])) = jGm (jBj st ((k : Int),no)) (upd fs k v):=by
 funext j
 unfold jJt jGm upd
 rw [kFk hin]
 by_cases e : j = k
 ·subst e
  simp [jRl]
 ·simp [e]
end
end Go.Proofs.YtkfeafmpaodagaaGreatDoor
