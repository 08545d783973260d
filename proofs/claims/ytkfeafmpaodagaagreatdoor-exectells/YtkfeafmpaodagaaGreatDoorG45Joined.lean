/- Several cells of a block that are stored, one behind the other. Conditions: none. A row that is stored into a block that was just made. Conditions: none. Commands and results as values. Conditions: none. Commands, results and turns of package exec in memory; bytes that may be read beside all else. Conditions: none. -/
import Derived.Test.YtkfeafmpaodagaaGreatDoorG00Joined
import Derived.Test.YtkfeafmpaodagaaGreatDoorG25Joined
import Derived.Test.YtkfeafmpaodagaaGreatDoorShardM
import Derived.Test.YtkfeafmpaodagaaGreatDoorG32Joined
import Derived.Deep.MidRow
namespace Go.Proofs.YtkfeafmpaodagaaGreatDoor
open Go.RowKit

/-- Cells of a block, some of them set. -/
def setL (cs : Array Value) (o : Nat) : List Value → Array Value
  | [] => cs
  | v :: vs => setL (cs.setIfInBounds o v) (o + 1) vs
theorem setL_heap {k : Nat} {t : TypeId} : ∀ (vs : List Value) (o : Nat) (W : World) (cs : Array Value), W.heap[k]? = some (.cells cs t (0, 0)) → (W.setCells k o vs).heap[k]? = some (.cells (setL cs o vs) t (0, 0))
  | [], _, _, _, h => h
  | v :: vs, o, W, cs, h => setL_heap vs (o + 1) (W.setCell ⟨k, o, none⟩ v) (cs.setIfInBounds o v) (heap_setCell_same W k o cs t v h)
theorem setL_grow {k : Nat} : ∀ (vs : List Value) (o : Nat) (W : World), Gr (fun j => j = k) W (W.setCells k o vs)
  | [], _, W => Gr.refl _ W
  | v :: vs, o, W => by
    have h1 : Gr (fun j => j = k) W (W.setCell ⟨k, o, none⟩ v) := ⟨rfl, rfl, rfl, by rw [World.size_setCell]; exact Nat.le_refl _, fun j _ hn => heap_setCell_other _ _ _ _ hn⟩
    exact h1.trans (setL_grow vs (o + 1) (W.setCell ⟨k, o, none⟩ v))
theorem Law.setL {w0 w : World} {k : Nat} {cs : Array Value} {t : TypeId} {R : Part} (H : Law w0 w ((boxP k (.cells cs t)).and R)) (o : Nat) (vs : List Value) : Law w0 (w.setCells k o vs) ((boxP k (.cells (setL cs o vs) t)).and R) := by
  have hg := setL_grow (k := k) vs o w
  exact H.turn (A' := boxP k (.cells (Go.Proofs.YtkfeafmpaodagaaGreatDoor.setL cs o vs) t)) (setL_heap vs o w cs H.q.1) (fun j hj => Nat.lt_of_lt_of_le (H.lt j (.inl hj)).2 hg.size) hg fun j hj => .inl hj
end Go.Proofs.YtkfeafmpaodagaaGreatDoor

namespace Go.Proofs.YtkfeafmpaodagaaGreatDoor
open Go.RowKit

theorem setRow_alloc (W : World) (old cs : Array Value) (t : TypeId) : (W.alloc (.cells old t)).setRow W.heap.size cs = W.alloc (.cells cs t) := by
  have e : (W.heap.push (.cells old t)).modify W.heap.size (fun | .cells _ elem frozen => .cells cs elem frozen | o => o) = W.heap.push (.cells cs t) := by
    apply Array.ext
    · simp
    · intro i h1 h2
      rw [Array.getElem_modify]
      by_cases hi : W.heap.size = i
      · subst hi
        simp
      · have h3 : i < W.heap.size := by simp at h2; omega
        simp [hi, Array.getElem_push_lt h3]
  exact congrArg (fun h => ({ W with heap := h } : World)) e
theorem setRow_alloc2 (w : World) (o : Obj) (old cs : Array Value) (t : TypeId) : ((w.alloc o).alloc (.cells old t)).setRow (w.heap.size + 1) cs = (w.alloc o).alloc (.cells cs t) := by
  have := setRow_alloc (w.alloc o) old cs t
  rwa [World.size_alloc] at this
end Go.Proofs.YtkfeafmpaodagaaGreatDoor

namespace Go.Proofs.YtkfeafmpaodagaaGreatDoor
open Go.RowKit

/-- A command as a value, its bytes with it. -/
structure Cv where
  op : Int
  key : ByteArray
  val : List UInt8
  fl : Int
  exp : Int
  cas : Int
  del : Int
  ini : Int
  makes : Bool
  sets : Bool
structure Cv.ok (c : Cv) : Prop where
  op : I64 c.op
  key : c.key.size ≤ 140737488351232
  val : c.val.length ≤ 140737488351232
  exp : I64 c.exp
  cas : U64 c.cas
  del : U64 c.del
  ini : U64 c.ini
/-- A result as a value. -/
structure Rv where
  s : Int
  val : List UInt8
  fl : Int
  cas : Int
  ttl : Int
  num : Int
  st : Bool
  won : Bool
  lost : Bool
def onlyR (s : Int) : Rv := ⟨s, [], 0, 0, 0, 0, false, false, false⟩
def viewR (i : Iv) (en : En) : Rv := ⟨0, i.val, i.fl, i.cas, ttlN i.exp en.now, 0, i.st, false, false⟩
/-- One more, round at 64 bits. -/
def nextU (a : Int) : Int := (a + 1) % 18446744073709551616
def newI (key : ByteArray) (v : List UInt8) (fl exp : Int) (en : En) : Iv := ⟨key, v, fl, exp, nextU en.seq, en.now, en.seq, false, false, false⟩
theorem at_i64e {exp now : Int} (he : I64 exp) (hn : I64 now) : I64 (atW exp now) := by
  unfold I64 at *
  unfold atW
  repeat' split
  all_goals first | omega | (unfold wrap64; omega)
end Go.Proofs.YtkfeafmpaodagaaGreatDoor

namespace Go.Proofs.YtkfeafmpaodagaaGreatDoor
set_option linter.unusedVariables false
open Go.RowKit Go.Shelf
variable {Sh : World → Nat → (Nat → Prop) → Nat → Nat → Hs → Prop}

def cmC (c : Cv) (a : Option Addr) (k : Nat) : Array Value := #[.int .i64 c.op, .string c.key, .slice a c.val.length k, .int .u32 c.fl, .int .i64 c.exp, .int .u64 c.cas, .int .u64 c.del, .int .u64 c.ini, .bool c.makes, .bool c.sets]
def rsC (r : Rv) (a : Option Addr) (k : Nat) : Array Value := #[.int .i64 r.s, .slice a r.val.length k, .int .u32 r.fl, .int .u64 r.cas, .int .i64 r.ttl, .int .u64 r.num, .bool r.st, .bool r.won, .bool r.lost]
/-- A turn: the shard, the command, the env, the item. -/
def tuC (b : Nat) (c : Cv) (va : Option Addr) (vc : Nat) (en : En) (i : It) : Array Value :=
  #[.pointer (some ⟨b, 0, none⟩), .int .i64 c.op, .string c.key, .slice va c.val.length vc, .int .u32 c.fl, .int .i64 c.exp, .int .u64 c.cas, .int .u64 c.del, .int .u64 c.ini, .bool c.makes, .bool c.sets,
    .int .i64 en.now, .int .u64 en.seq, .int .i64 en.flush, .int .u64 en.fseq,
    .string i.key, .slice i.va i.vl i.vc, .int .u32 i.fl, .int .i64 i.exp, .int .u64 i.cas, .int .i64 i.sec, .int .u64 i.seq, .bool i.st, .bool i.won, .bool i.seen]
theorem cmd_size (c : Cv) (a : Option Addr) (k : Nat) : (Tryz.prog.info? 33).map (·.size) = some (cmC c a k).size := by
  have h : (Tryz.prog.info? 33).map (·.size) = some 10 := by kernel_rfl
  exact h
theorem res_size (r : Rv) (a : Option Addr) (k : Nat) : (Tryz.prog.info? 40).map (·.size) = some (rsC r a k).size := by
  have h : (Tryz.prog.info? 40).map (·.size) = some 9 := by kernel_rfl
  exact h
theorem cmd_one (c : Cv) (a : Option Addr) (k : Nat) : (cmC c a k).all (·.oneCell') = true := by simp [cmC, Value.oneCell']
theorem res_one (r : Rv) (a : Option Addr) (k : Nat) : (rsC r a k).all (·.oneCell') = true := by simp [rsC, Value.oneCell']
def zeroRv : Rv := ⟨0, [], 0, 0, 0, 0, false, false, false⟩
/-- The turn as a part. -/
abbrev tnP (k b : Nat) (c : Cv) (va : Option Addr) (vc : Nat) (en : En) (i : It) : Part := boxP k (.cells (tuC b c va vc en i) 81)
section
variable {w : World} {k b : Nat} {c : Cv} {va : Option Addr} {vc : Nat} {en : En} {i : It} {t : TypeId}
theorem tu_at (h : w.heap[k]? = some (.cells (tuC b c va vc en i) t (0, 0))) (j : Nat) (v : Value) (hv : (tuC b c va vc en i)[j]? = some v) : w.cell? ⟨k, j, none⟩ = some v := by
  unfold World.cell?
  rw [h]
  exact hv
theorem tu_s (h : w.heap[k]? = some (.cells (tuC b c va vc en i) t (0, 0))) : w.cell? ⟨k, 0, none⟩ = some (.pointer (some ⟨b, 0, none⟩)) := tu_at h 0 _ rfl
theorem tu_op (h : w.heap[k]? = some (.cells (tuC b c va vc en i) t (0, 0))) : w.cell? ⟨k, 1, none⟩ = some (.int .i64 c.op) := tu_at h 1 _ rfl
theorem tu_key (h : w.heap[k]? = some (.cells (tuC b c va vc en i) t (0, 0))) : w.cell? ⟨k, 2, none⟩ = some (.string c.key) := tu_at h 2 _ rfl
theorem tu_val (h : w.heap[k]? = some (.cells (tuC b c va vc en i) t (0, 0))) : w.cell? ⟨k, 3, none⟩ = some (.slice va c.val.length vc) := tu_at h 3 _ rfl
theorem tu_fl (h : w.heap[k]? = some (.cells (tuC b c va vc en i) t (0, 0))) : w.cell? ⟨k, 4, none⟩ = some (.int .u32 c.fl) := tu_at h 4 _ rfl
theorem tu_exp (h : w.heap[k]? = some (.cells (tuC b c va vc en i) t (0, 0))) : w.cell? ⟨k, 5, none⟩ = some (.int .i64 c.exp) := tu_at h 5 _ rfl
theorem tu_cas (h : w.heap[k]? = some (.cells (tuC b c va vc en i) t (0, 0))) : w.cell? ⟨k, 6, none⟩ = some (.int .u64 c.cas) := tu_at h 6 _ rfl
theorem tu_del (h : w.heap[k]? = some (.cells (tuC b c va vc en i) t (0, 0))) : w.cell? ⟨k, 7, none⟩ = some (.int .u64 c.del) := tu_at h 7 _ rfl
theorem tu_ini (h : w.heap[k]? = some (.cells (tuC b c va vc en i) t (0, 0))) : w.cell? ⟨k, 8, none⟩ = some (.int .u64 c.ini) := tu_at h 8 _ rfl
theorem tu_makes (h : w.heap[k]? = some (.cells (tuC b c va vc en i) t (0, 0))) : w.cell? ⟨k, 9, none⟩ = some (.bool c.makes) := tu_at h 9 _ rfl
theorem tu_sets (h : w.heap[k]? = some (.cells (tuC b c va vc en i) t (0, 0))) : w.cell? ⟨k, 10, none⟩ = some (.bool c.sets) := tu_at h 10 _ rfl
theorem tu_now (h : w.heap[k]? = some (.cells (tuC b c va vc en i) t (0, 0))) : w.cell? ⟨k, 11, none⟩ = some (.int .i64 en.now) := tu_at h 11 _ rfl
theorem tu_seq (h : w.heap[k]? = some (.cells (tuC b c va vc en i) t (0, 0))) : w.cell? ⟨k, 12, none⟩ = some (.int .u64 en.seq) := tu_at h 12 _ rfl
theorem tu_ival (h : w.heap[k]? = some (.cells (tuC b c va vc en i) t (0, 0))) : w.cell? ⟨k, 16, none⟩ = some (.slice i.va i.vl i.vc) := tu_at h 16 _ rfl
theorem tu_ifl (h : w.heap[k]? = some (.cells (tuC b c va vc en i) t (0, 0))) : w.cell? ⟨k, 17, none⟩ = some (.int .u32 i.fl) := tu_at h 17 _ rfl
theorem tu_iexp (h : w.heap[k]? = some (.cells (tuC b c va vc en i) t (0, 0))) : w.cell? ⟨k, 18, none⟩ = some (.int .i64 i.exp) := tu_at h 18 _ rfl
theorem tu_icas (h : w.heap[k]? = some (.cells (tuC b c va vc en i) t (0, 0))) : w.cell? ⟨k, 19, none⟩ = some (.int .u64 i.cas) := tu_at h 19 _ rfl
theorem tu_ist (h : w.heap[k]? = some (.cells (tuC b c va vc en i) t (0, 0))) : w.cell? ⟨k, 22, none⟩ = some (.bool i.st) := tu_at h 22 _ rfl
theorem tu_iwon (h : w.heap[k]? = some (.cells (tuC b c va vc en i) t (0, 0))) : w.cell? ⟨k, 23, none⟩ = some (.bool i.won) := tu_at h 23 _ rfl
theorem tu_iseen (h : w.heap[k]? = some (.cells (tuC b c va vc en i) t (0, 0))) : w.cell? ⟨k, 24, none⟩ = some (.bool i.seen) := tu_at h 24 _ rfl
theorem tu_item (h : w.heap[k]? = some (.cells (tuC b c va vc en i) t (0, 0))) : w.rangeAt k 15 (itC i).toList := fun j v hv => by
  have hj : j < 10 := (List.getElem?_eq_some_iff.1 hv).1
  refine tu_at h _ v ?_
  match j, hj with
  | 0, _ | 1, _ | 2, _ | 3, _ | 4, _ | 5, _ | 6, _ | 7, _ | 8, _ | 9, _ => exact hv
theorem tu_env (h : w.heap[k]? = some (.cells (tuC b c va vc en i) t (0, 0))) : w.rangeAt k 11 (enC en).toList := fun j v hv => by
  have hj : j < 4 := (List.getElem?_eq_some_iff.1 hv).1
  refine tu_at h _ v ?_
  match j, hj with
  | 0, _ | 1, _ | 2, _ | 3, _ => exact hv
theorem tu_there (h : w.heap[k]? = some (.cells (tuC b c va vc en i) t (0, 0))) : w.there k 15 10 := fun j hj => by
  refine ⟨?_, frozen_of_row _ _ _ _ _ h⟩
  unfold World.cell?
  rw [h]
  match j, hj with
  | 0, _ | 1, _ | 2, _ | 3, _ | 4, _ | 5, _ | 6, _ | 7, _ | 8, _ | 9, _ => rfl
theorem tu_set (i' : It) : setL (tuC b c va vc en i) 15 (itC i').toList = tuC b c va vc en i' := by
  simp [setL, tuC, itC]
end
section
variable {w0 w w' : World} {A R R' : Part} {a : Option Addr} {c : Nat} {l : List UInt8}
/-- Bytes that may be read wherever this part, and all that was there, is as it was. -/
structure Rd (w0 : World) (R : Part) (a : Option Addr) (c : Nat) (l : List UInt8) : Prop where
  bs : ∀ W, Law w0 W R → Bs W a l.length c (ints l)
  at_ : ∀ W k, Law w0 W R → 0 < l.length → (Value.slice a l.length c).ownBlock = some k → k < w0.heap.size ∨ R.own k
theorem Rd.old (h : Bs w0 a l.length c (ints l)) : Rd w0 R a c l :=
  ⟨fun W H => h.on H.below, fun W k _ h0 hk => by
    rcases h with ⟨h1, _⟩ | ⟨g, off, r⟩
    · omega
    · have h2 := r.old
      rw [r.at_] at hk
      obtain rfl : g = k := Option.some.inj hk
      exact .inl h2⟩
theorem Rd.val {n0 : Nat} : Rd w0 (valP n0 a c l) a c l := ⟨fun W H => ValAt.bs H.q, fun W k _ _ hk => .inr hk⟩
theorem Rd.left (h : Rd w0 R a c l) : Rd w0 (R.and R') a c l := ⟨fun W H => h.bs W H.left, fun W k H h0 hk => (h.at_ W k H.left h0 hk).imp id .inl⟩
theorem Rd.right (h : Rd w0 R a c l) : Rd w0 (A.and R) a c l := ⟨fun W H => h.bs W H.right, fun W k H h0 hk => (h.at_ W k H.right h0 hk).imp id .inr⟩
theorem Rd.nil : Rd w0 R none 0 [] := ⟨fun W _ => .inl ⟨rfl, rfl, fun _ => rfl⟩, fun W k _ h => by simp at h⟩
variable {b sd n : Nat} {own : Nat → Prop} {st : Hs} {L : ShardLib Sh}
theorem Law.readR (H : Law w0 w ((shQ L b own sd n st).and R)) (h : Rd w0 R a c l) : ReadAt w own a c l := by
  refine ⟨h.bs w H.right, fun k h0 hk ho => ?_⟩
  rcases h.at_ w k H.right h0 hk with h1 | h1
  · have := (H.lt k (.inl ho)).1
    omega
  · exact H.q.2.2 k ho h1
theorem Law.shMono {m : Nat} (H : Law w0 w ((shQ L b own sd n st).and R)) (hm : n ≤ m) (hl : m ≤ 901 ∨ st.slab.bud ≤ 57600) : Law w0 w ((shQ L b own sd m st).and R) :=
  H.weak1 (A' := shQ L b own sd m st) (fun h => L.mono h hm hl) fun _ h => h
/-- What is answered: a result, its bytes beside the shard. -/
def Ends (L : ShardLib Sh) (w0 : World) (b sd n : Nat) (R : Part) (r : Rv × Hs) (e : Ending) (w' : World) : Prop :=
  ∃ a c own', e = .returned (.agg (rsC r.1 a c)) ∧ Law w0 w' ((shQ L b own' sd n r.2).and ((valP 0 a c r.1.val).and R))
theorem Law.noVal (H : Law w0 w ((shQ L b own sd n st).and R)) : Law w0 w ((shQ L b own sd n st).and ((valP 0 none 0 []).and R)) := (H.nil (n0 := 0) (e := 5) (size := 1)).rot
end
end Go.Proofs.YtkfeafmpaodagaaGreatDoor
