/- An append at a step of a region that draws its order. Over the library's law on append. Conditions: none. Maps in memory as parts: what is asked, stored and struck out. Conditions: none. What is asked of a map, stored and struck out at a step of a region that draws its order. Conditions: none. -/
import Derived.Test.YtkfeafmpaodagaaGreatDoorG00Joined
import Derived.Maps.AppendAt
import Derived.Laws.OwnMore
import Derived.RegionTactic
import Derived.Maps.OwnSet
import Derived.Deep.RegionHeldLaw
namespace Go.Proofs.YtkfeafmpaodagaaGreatDoor
set_option maxHeartbeats 16000000
section
open Go.RowKit
theorem jFk {P : Program} (w : World) {ops : Array Oper} {o : Oper} {a : Act} {K : Act → World → Prop} {Q : Exit → Act → World → Prop} {E : Prop} (d : Tmp) (hd : o.dst = some d) (hgd : o.guard = none) (s x : Operand) (t : TypeId)
  (ho : o.op = .call { callee:=.builtin .append,args:=#[s,x],argTypes:=#[t,t] })
  (base : Nat) (e : TypeId) (i : TypeInfo) (z : Value) (size bytes : Nat) (ht : P.underlying t = some (.slice e)) (hi : P.info? e = some i) (hz : i.zero = some z)
  (hsize : i.size = size) (hby : i.bytes = bytes) (hzs : z.cells.size = size) (hsz : 0 < size)
  (v : Value) (n : Nat) (xs : List Value) (hs : a.eval s = v) (hown : w.ownsRow base e size v n xs)
  (ad : Addr) (m c : Nat) (news : List Value) (hx : a.eval x = .slice (some ad) m c) (hl : news.length = m * size) (hnews : ∀ j u,news[j]? = some u → w.cell? (ad.add j) = some u) (h1 : ∀ u ∈ news,u.oneCell' = true)
  (h63 : n + m ≤ maxLen) (hbytes : (n + m) * bytes ≤ 140737488355328) (hbase : base ≤ w.heap.size)
  (h : ∀ v' w',w'.ownsRow base e size v' (n + m) (xs ++ news) → w.grownBy w' v.ownBlock → (v'.ownBlock = v.ownBlock ∨ v'.ownBlock = some w.heap.size) → K (a.put (some d) v') w') :
  if Region.wanted o (yielded ops a.tmps) = true then Oper.wp P o a w K Q else E:=by
 have hw : Region.wanted o (yielded ops a.tmps) = true:=by simp [Region.wanted,hgd]
 rw [if_pos hw]
 obtain ⟨v',w',hr,h2,h3,_,h5⟩:=run_append_own_at (P:=P) w base t o.type e i z size bytes ht hi hz hsize hby hzs hsz v n xs hown ad m c news hl hnews h1 h63 hbytes hbase
 unfold Oper.wp execOp
 simp only [ho,resolve,invoke,builtin,Sem.run_bind,Sem.run_pure,Result.andThen_ok,List.map_toArray,List.map_cons,List.map_nil,hs,hx,hr]
 have:=h v' w' h2 h3 h5
 rw [← hd] at this
 exact this
end
section
open Go.RowKit Go.Maps
variable {H : Type}
theorem kGu {w : World} {P : Program} {k : TypeId} {R : Value → Option (DataW H × List MemPlace)} {b n : Nat} {D : DataW H} (h : w.ownsMap P k R b n D) : w.ownsMap P k R b (Maps.size D) D:=by
 obtain ⟨es,clock,h1,h2,_,h4⟩:=h
 refine ⟨es,clock,h1,h2,?_,h4⟩
 rw [h4,Maps.size_eq,length_read]
 exact Nat.le_refl _
theorem map_on {w w' : World} {P : Program} {k : TypeId} {R : Value → Option (DataW H × List MemPlace)} {b n : Nat} {D : DataW H} (h : w.ownsMap P k R b n D) (hs : w'.heap[b]? = w.heap[b]?) : w'.ownsMap P k R b n D:=by
 obtain ⟨es,clock,h1,h2⟩:=h
 exact ⟨es,clock,hs.trans h1,h2⟩
def jTj (P : Program) (k : TypeId) (R : Value → Option (DataW H × List MemPlace)) (b : Nat) (D : DataW H) : jAd:=⟨fun j => j = b,fun w => w.ownsMap P k R b (Maps.size D) D,fun _ _ h hs => map_on h (hs b rfl)⟩
section
variable {F : Nat → Prop} {w0 w w' : World} {P : Program} {k : TypeId} {R : Value → Option (DataW H × List MemPlace)} {b n : Nat} {D D' : DataW H} {C : jAd}
theorem kFl (h : w.mapTurned w' b) : Gr (fun j => j = b) w w':=by
 have hg:=h.grown
 exact ⟨hg.1,hg.2,hg.3,hg.4,fun j hj hn => hg.5 j hj (fun e => hn (by cases e;rfl))⟩
theorem jAb.mapTurn (L : jAb F w0 w ((jTj P k R b D).and C)) (h : w'.ownsMap P k R b n D') (ht : w.mapTurned w' b) : jAb F w0 w' ((jTj P k R b D').and C) :=
 L.turn (A':=jTj P k R b D') (kGu h) (fun j hj => by rw [show j = b from hj];exact h.lt) (kFl ht) fun _ hj => .inl hj
theorem jAb.mapNew (L : jAb F w0 w C) : jAb F w0 (w.alloc (.map #[] 0)) ((jTj P k R w.heap.size (.map [])).and C) :=
 L.new (World.grownBy_alloc w _ none) (World.ownsMap_made w P k R) (by rintro j rfl;rw [World.size_alloc];exact ⟨Nat.le_refl _,Nat.lt_succ_self _⟩)
end
end
section
open Go.RowKit Go.Maps
section
variable {H : Type} {P : Program} (w : World) {ops : Array Oper} {o : Oper} {a : Act} {K : Act → World → Prop} {Q : Exit → Act → World → Prop} {E : Prop}
theorem jZ3 (hd : o.dst = none) (hgd : o.guard = none) (m x : Operand) (t k : TypeId) (hop : o.op = Op.call { callee:=Callee.builtin Builtin.delete,args:=#[m,x],argTypes:=#[t,k] })
  (e : TypeId) (Ky : Keyed P k) (ht : P.underlying t = some (.map k e)) (R : Value → Option (DataW H × List MemPlace)) (b n : Nat) (D : DataW H)
  (hm : a.eval m = .map (some b)) (hown : w.ownsMap P k R b n D) (key : Value) (kl : Lit) (hx : a.eval x = key) (hkey : keyOf P k key = some kl)
  (h : ∀ w',w'.ownsMap P k R b n (D.del kl) → w.mapTurned w' b → K (a.put none (.tuple #[])) w') :
  if Region.wanted o (yielded ops a.tmps) = true then Oper.wp P o a w K Q else E:=by
 have hw : Region.wanted o (yielded ops a.tmps) = true:=by simp [Region.wanted,hgd]
 rw [if_pos hw]
 obtain ⟨w',hrun,r1,r2⟩:=hown.drop Ky ht hkey o.type
 unfold Oper.wp
 simp [execOp,hop,resolve,invoke,builtin,hm,hx,hrun,Result.andThen]
 have:=h w' r1 r2
 rw [← hd] at this
 exact this
end
end
end Go.Proofs.YtkfeafmpaodagaaGreatDoor
