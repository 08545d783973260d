/- Items, entries and their bytes in memory; what a copy of an item is. Conditions: values of at most 100000 bytes. A copy of an item, with bytes of its own. Conditions: values of at most 100000 bytes. -/
import Derived.Test.YtkfeafmpaodagaaGreatDoorG00Joined
import Derived.Test.YtkfeafmpaodagaaGreatDoorG04Joined
import Derived.Test.YtkfeafmpaodagaaGreatDoorG02Joined
import Derived.Test.YtkfeafmpaodagaaGreatDoorShardM
import Derived.Great.Ranges
import Derived.Laws.Tables
import Derived.Deep.MidRow
import Derived.Laws.ResultCell
import Derived.Laws.Cover3
import Derived.Deep.CutBlock
import Derived.Deep.CutRange
import Derived.Deep.QuietTactic
import Derived.BigQuiet
import Derived.Deep.RegionHeldLaw
import Derived.Deep.RegionHeld3
import Derived.Shelf.SlSortCmp.QuietGrown
namespace Go.Proofs.YtkfeafmpaodagaaGreatDoor
set_option maxHeartbeats 16000000
section
open Go.RowKit
def byU (l : List UInt8) : List Value:=byV (jA6 l)
theorem kA2 (l : List UInt8) : (byU l).length = l.length:=by unfold byU byV;rw [List.length_map,jMf]
theorem kAy {l : List UInt8} {i : Nat} (h : i < l.length) : (byU l)[i]? = some (.int .u8 ((jA6 l).getD i 0)):=by
 unfold byU byV
 have : i < (jA6 l).length:=by rw [jMf];exact h
 rw [List.getElem?_map,List.getElem?_eq_getElem this]
 simp [List.getD,List.getElem?_eq_getElem this]
def jDi (n0 : Nat) (w : World) (a : Option Addr) (c : Nat) (l : List UInt8) : Prop:=w.ownsRow n0 5 1 (.slice a l.length c) l.length (byU l)
def jA5 (n0 : Nat) (a : Option Addr) (c : Nat) (l : List UInt8) : jAd:=jB2 n0 5 1 (.slice a l.length c) l.length (byU l)
theorem jDi.new {F : Nat → Prop} {w0 w w' : World} {a : Option Addr} {c : Nat} {l : List UInt8} {R : jAd} (h : jDi w.heap.size w' a c l) (H : jAb F w0 w R) (hg : w.grownBy w' none) : jAb F w0 w' ((jA5 w.heap.size a c l).and R) :=
 H.new (A:=jA5 w.heap.size a c l) hg h fun _ hk => ⟨(jCw h hk).1,(jCw h hk).2.1⟩
theorem jAb.grownN {w W : World} {A : jAd} (H : jAb (fun _ => False) w W A) : w.grownBy W none:=H.gr.to fun _ h => h.elim
theorem jDi.bs {n0 : Nat} {w : World} {a : Option Addr} {c : Nat} {l : List UInt8} (h : jDi n0 w a c l) : Bs w a l.length c (jA6 l):=by
 by_cases h0 : l.length = 0
 ·refine .inl ⟨h0,?_,fun ha => ?_⟩
  ·rw [List.eq_nil_of_length_eq_zero h0]
   rfl
  ·subst ha
   rcases h.2 with ⟨h1,_⟩ | ⟨g,cap,cur,h1,_⟩
   ·exact (Value.slice.inj h1).2.2
   ·cases h1
 ·obtain ⟨g,cap,e⟩:=jCk h (by omega)
  cases e
  have hc:=jGe h
  refine .inr ⟨g,0,rfl,by omega,hc.1,jMf l,jQ8 l,fun i hi => ?_,(jCw h rfl).2.1⟩
  have h' : w.ownsRow n0 5 1 (.slice (some ⟨g,0,none⟩) l.length c) l.length (byU l):=h
  rw [Nat.zero_add,h'.cellAt i (by omega),kAy hi]
theorem jDi.base {n0 n1 : Nat} {w : World} {a : Option Addr} {c : Nat} {l : List UInt8} (h : jDi n0 w a c l) (hn : n1 ≤ n0) : jDi n1 w a c l:=by
 refine ⟨h.1,?_⟩
 rcases h.2 with h1 | ⟨g,cap,cur,h1,h2,h3⟩
 ·exact .inl h1
 ·exact .inr ⟨g,cap,cur,h1,Nat.le_trans hn h2,h3⟩
theorem jIp (w : World) (base : Nat) (ty : TypeId) {v : Value} {n : Nat} {xs : List Value} {a : Option Addr} {len cap : Nat} {l : List UInt8} (hown : w.ownsRow base 5 1 v n xs) (hl : l.length = len) (hr : Bs w a len cap (jA6 l)) (hn : n + len ≤ 100000000) (hb : base ≤ w.heap.size) :
  ∃ v' w',(Builtin.append_ #[30,30] ty #[v,.slice a len cap]).run Tryz.prog w = .ok v' w' ∧ w'.ownsRow base 5 1 v' (n + len) (xs ++ byU l) ∧ w.grownBy w' v.ownBlock ∧ (v'.ownBlock = v.ownBlock ∨ v'.ownBlock = some w.heap.size):=by
 obtain ⟨i0,hi,hz0,hz1,hz2⟩:=info_parts jVr
 cases a with
 | none =>
  obtain ⟨rfl,h0,hc⟩ : len = 0 ∧ jA6 l = [] ∧ cap = 0:=by
   rcases hr with ⟨h1,h2,h3⟩ | ⟨b,off,r⟩
   ·exact ⟨h1,h2,h3 rfl⟩
   ·cases r.at_
  subst hc
  refine ⟨v,w,run_append_owned_none w base 30 ty 5 i0 1 Tryz.underlying30 hi v n xs hown,?_,jDg _ _,.inl rfl⟩
  unfold byU
  rw [h0]
  simpa [byV] using hown
 | some x =>
  have hlb : (byU l).length = len * 1:=by rw [kA2,hl,Nat.mul_one]
  have hnews : ∀ (j : Nat) (u : Value),(byU l)[j]? = some u → w.cell? (x.add j) = some u:=by
   intro j u hu
   have hj : j < len:=by
    have:=(List.getElem?_eq_some_iff.1 hu).1
    rw [kA2] at this
    omega
   rcases hr with ⟨h1,_⟩ | ⟨b,off,r⟩
   ·omega
   ·obtain rfl : x = ⟨b,off,none⟩:=Option.some.inj r.at_
    rw [jPk,r.cell j hj,← hu,kAy (by omega)]
  obtain ⟨v',w',q1,q2,q3,_,q5⟩:=run_append_own_at (P:=Tryz.prog) w base 30 ty 5 i0 (.int .u8 0) 1 1 Tryz.underlying30 hi hz0 hz1 hz2 rfl (by decide) v n xs hown x len cap (byU l) hlb hnews (fun u hu => by
   unfold byU byV at hu
   obtain ⟨z,_,rfl⟩:=List.mem_map.1 hu
   rfl) (by unfold maxLen;omega) (by omega) hb
  exact ⟨v',w',q1,q2,q3,q5⟩
theorem jC6 {w : World} {ops : Array Oper} {rest : List Oper} {o : Oper} {a : Act} {Q : Exit → Act → World → Prop} (hgd : o.guard = none) (s x : Operand) (ho : o.op = .call { callee:=.builtin .append,args:=#[s,x],argTypes:=#[30,30] })
  (base : Nat) (v : Value) (n : Nat) (xs : List Value) (hs : a.eval s = v) (hown : w.ownsRow base 5 1 v n xs) (b : Option Addr) (len cap : Nat) (l : List UInt8) (hx : a.eval x = .slice b len cap) (hl : l.length = len) (hr : Bs w b len cap (jA6 l)) (hn : n + len ≤ 100000000) (hb : base ≤ w.heap.size)
  (h : ∀ v' w',w'.ownsRow base 5 1 v' (n + len) (xs ++ byU l) → w.grownBy w' v.ownBlock → (v'.ownBlock = v.ownBlock ∨ v'.ownBlock = some w.heap.size) → wpList Tryz.prog ops Q rest (a.put o.dst v') w') :
  wpList Tryz.prog ops Q (o :: rest) a w:=by
 refine wpList_plain hgd fun K hK => ?_
 obtain ⟨v',w',hr,h2,h3,h5⟩:=jIp w base o.type hown hl hr hn hb
 unfold Oper.wp execOp
 simp only [ho,resolve,invoke,builtin,Sem.run_bind,Sem.run_pure,Result.andThen_ok,List.map_toArray,List.map_cons,List.map_nil,hs,hx,hr]
 exact hK _ _ (h v' w' h2 h3 h5)
def jBw : It:=⟨⟨#[]⟩,none,0,0,0,0,0,0,0,false,false,false⟩
theorem jCd (i : It) : (Tryz.prog.info? 75).map (·.size) = some (itC i).size:=by
 have h : (Tryz.prog.info? 75).map (·.size) = some 10:=by kernel_rfl
 exact h
theorem jHs (e : En) : (Tryz.prog.info? 35).map (·.size) = some (enC e).size:=by
 have h : (Tryz.prog.info? 35).map (·.size) = some 4:=by kernel_rfl
 exact h
theorem jHu (i : It) : (itC i).all (·.oneCell') = true:=by simp [itC,Value.oneCell']
theorem Bs.alloc {w : World} {a : Option Addr} {len cap : Nat} {es : List Int} (h : Bs w a len cap es) (o : Obj) : Bs (w.alloc o) a len cap es:=h.on (jDv (World.grownBy_alloc w o none))
theorem kEa (w : World) : (w.alloc (.cells #[] 5)).ownsRow w.heap.size 5 1 (.slice (some ⟨w.heap.size,0,none⟩) 0 0) 0 [] :=
 ⟨rfl,.inr ⟨w.heap.size,0,#[],rfl,Nat.le_refl _,heap_alloc_new w _,Nat.le_refl _,Nat.zero_le _,rfl,rfl⟩⟩
theorem kBy (a : Option Addr) (n c : Nat) (w : World) : (binOp .eql 30 (.slice a n c) (.slice none 0 0)).run Tryz.prog w = .ok (.bool a.isNone) w:=by
 simp only [binOp]
 simp [run_equal_slice_nil w 30 5 a n c Tryz.underlying30]
set_option maxRecDepth 100000 in
theorem kGi {w : World} {a : Option Addr} {c : Nat} {l : List UInt8} (hl : l.length ≤ 100000) (hr : Bs w a l.length c (jA6 l)) :
  Calls Tryz.prog 89 #[.slice a l.length c] w fun e w' => ∃ a' c',e = .returned (.slice a' l.length c') ∧ jDi w.heap.size w' a' c' l ∧ w.grownBy w' none:=by
 obtain ⟨n,hn⟩ : ∃ n,l.length = n:=⟨_,rfl⟩
 unfold jDi
 rw [hn] at hr hl ⊢
 cases a with
 | none =>
  obtain ⟨rfl,h0,rfl⟩ : n = 0 ∧ jA6 l = [] ∧ c = 0:=by
   rcases hr with ⟨h1,h2,h3⟩ | ⟨b,off,r⟩
   ·exact ⟨h1,h2,h3 rfl⟩
   ·cases r.at_
  have hb : byU l = []:=by unfold byU;rw [h0];rfl
  have hE:=fun W => kBy none 0 0 W
  clear hr
  go_enter Tryz.func89,Tryz.ntmps89
  go_wp2
  go_ret
  exact ⟨_,_,rfl,by rw [hb];exact World.ownsRow_nil _ _ _ _,jDg _ _⟩
 | some x =>
  have hr2:=hr.alloc (.cells #[] 5)
  have ho:=kEa w
  have hg0:=World.grownBy_alloc w (.cells #[] 5) none
  have hsz : w.heap.size ≤ (w.alloc (.cells #[] 5)).heap.size:=hg0.size
  have hE:=fun W => kBy (some x) n c W
  clear hr
  go_enter Tryz.func89,Tryz.ntmps89
  go_wp2_with (at_builtin;refine jC6 rfl _ _ rfl w.heap.size _ _ _ rfl ho _ _ _ l rfl hn hr2 (by omega) hsz ?_;intro v1 w1 hown1 hg1 hat1;rw [Nat.zero_add] at hown1)
  obtain ⟨a1,c1,rfl⟩:=jAr hown1
  go_ret
  exact ⟨_,_,rfl,hown1,jG6 hg0 hg1 (Nat.le_refl _)⟩
end
section
open Go.RowKit
theorem jSh (v : Iv) (a a' : Option Addr) (c c' : Nat) : (itC (jAe v a c)).setIfInBounds 1 (.slice a' v.val.length c') = itC (jAe v a' c'):=by simp [itC,jAe]
theorem it_ret {fn : Func} {W : World} {r : Nat} {i : It} {tmps : Array Value} {p : Tmp} {Post : Ending → World → Prop} (hf : fn.results = #[.cell p 75]) (hb : W.heap[r]? = some (.cells (itC i) 75 (0,0))) (h4 : tmps.getD p undef = .pointer (some ⟨r,0,none⟩))
  (h : Post (.returned (.agg (itC i))) W) : bodyPost Tryz.prog fn Post .ret { tmps:=tmps,defers:=[] } W :=
 bodyPost_ret (results_cell_row hf tmps W r 75 (itC i) (0,0) _ h4 hb Tryz.underlying75 rfl (jCd i)) rfl h
set_option maxRecDepth 100000 in
theorem jNh (v : Iv) (hl : v.val.length ≤ 100000) {w : World} {a : Option Addr} {c : Nat} (hr : Bs w a v.val.length c (jA6 v.val)) :
  Calls Tryz.prog 54 #[.agg (itC (jAe v a c))] w fun e w' => ∃ a' c',e = .returned (.agg (itC (jAe v a' c'))) ∧ jDi w.heap.size w' a' c' v.val ∧ w.grownBy w' none:=by
 have H0:=(((jAb.bare w).box (.cells (itC (jAe v a c)) 75)).box (.cells (itC jBw) 75)).rot
 rw [World.size_alloc] at H0
 have hr0:=(hr.alloc (.cells (itC (jAe v a c)) 75)).alloc (.cells (itC jBw) 75)
 go_enter Tryz.func54,Tryz.ntmps54
 go_upto_region 1 with fail
 have hz : (w.alloc (.cells (itC (jAe v a c)) 75)).alloc (.cells (itC jBw) 75) = (w.alloc (.cells (itC (jAe v a c)) 75)).alloc (.cells #[.string ⟨#[]⟩,.slice none 0 0,.int .u32 0,.int .i64 0,.int .u64 0,.int .i64 0,.int .u64 0,.bool false,.bool false,.bool false] 75):=rfl
 rw [← hz]
 clear hz
 generalize (w.alloc (.cells (itC (jAe v a c)) 75)).alloc (.cells (itC jBw) 75) = W at *
 have c1 : W.cell? ⟨w.heap.size,1,none⟩ = some (.slice a v.val.length c):=(jAk H0.q.1).2.1
 have f1 : W.frozen? ⟨w.heap.size,1,none⟩ = false:=frozen_of_row _ _ _ _ _ H0.q.1
 go_wp2_with (first
  | (go_at_call 89;refine (kGi hl hr0).mono ?_;rintro e w1 ⟨a1,c2,rfl,hv1,hg1⟩;have H1:=(hv1.new H0 hg1).rot;have c3 : w1.cell? ⟨w.heap.size,1,none⟩ = some (.slice a v.val.length c):=(jAk H1.q.1).2.1;have f3 : w1.frozen? ⟨w.heap.size,1,none⟩ = false:=frozen_of_row _ _ _ _ _ H1.q.1;have H2:=H1.setAt 1 (.slice a1 v.val.length c2);rw [jSh] at H2)
  | (refine wpList_load_row rfl 75 _ rfl w.heap.size rfl _ (itC (jAe v a1 c2)) _ _ H2.q.1 Tryz.underlying75 rfl (jCd _) ?_;have H3:=H2.rin.rot)
  | (refine wpList_store_row rfl 75 _ _ rfl (w.heap.size + 1) (itC (jAe v a1 c2)) rfl rfl _ (itC jBw) H3.q.1 (jCd _) rfl (jHu _) ?_;have H4:=H3.setRow (itC (jAe v a1 c2))))
 exact it_ret rfl H4.q.1 rfl ⟨a1,c2,rfl,jDi.base H4.q.2.1.2.1.1 H0.gr.size,H4.grownN⟩
end
section
open Go.RowKit
theorem ldE {ops : Array Oper} {rest : List Oper} {o : Oper} {a : Act} {w : World} {Q : Exit → Act → World → Prop} (g : Nat) (e : En) (hgd : o.guard = none) (x : Operand) (ho : o.op = .load 35 x) (hx : a.eval x = .pointer (some ⟨g,0,none⟩)) {t : TypeId} {fr : Nat × Nat} (hg : w.heap[g]? = some (.cells (enC e) t fr)) (h : wpList Tryz.prog ops Q rest (a.put o.dst (.agg (enC e))) w) : wpList Tryz.prog ops Q (o :: rest) a w:=wpList_load_row hgd 35 x ho g hx t (enC e) fr _ hg Tryz.underlying35 rfl (jHs e) h
end
section
open Go.RowKit
theorem stI {ops : Array Oper} {rest : List Oper} {o : Oper} {a : Act} {w : World} {Q : Exit → Act → World → Prop} (g : Nat) (e : It) (hgd : o.guard = none) (x y : Operand) (ho : o.op = .store 75 x y) (hx : a.eval x = .pointer (some ⟨g,0,none⟩)) (hy : a.eval y = .agg (itC e)) {t : TypeId} (hg : w.heap[g]? = some (.cells (itC jBw) t)) (h : wpList Tryz.prog ops Q rest (a.put o.dst undef) (w.setRow g (itC e))) : wpList Tryz.prog ops Q (o :: rest) a w:=wpList_store_row hgd 75 x y ho g (itC e) hx hy t (itC jBw) hg (jCd e) rfl (jHu e) h
end
section
open Go.RowKit
theorem ldI {ops : Array Oper} {rest : List Oper} {o : Oper} {a : Act} {w : World} {Q : Exit → Act → World → Prop} (g : Nat) (e : It) (hgd : o.guard = none) (x : Operand) (ho : o.op = .load 75 x) (hx : a.eval x = .pointer (some ⟨g,0,none⟩)) {t : TypeId} {fr : Nat × Nat} (hg : w.heap[g]? = some (.cells (itC e) t fr)) (h : wpList Tryz.prog ops Q rest (a.put o.dst (.agg (itC e))) w) : wpList Tryz.prog ops Q (o :: rest) a w:=wpList_load_row hgd 75 x ho g hx t (itC e) fr _ hg Tryz.underlying75 rfl (jCd e) h
end
end Go.Proofs.YtkfeafmpaodagaaGreatDoor
