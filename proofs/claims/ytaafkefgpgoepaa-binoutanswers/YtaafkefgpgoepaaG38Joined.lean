/- The document's own answers of the binary dialect: what the walk of an answer carries. Conditions: none. The document's own answers of the binary dialect: which one it is. Conditions: none. -/
import Derived.Test.YtaafkefgpgoepaaBoCode
import Derived.Test.YtaafkefgpgoepaaClassPut
import Derived.Test.YtaafkefgpgoepaaSetRow
import Derived.Lib.SlBytesConst
namespace Go.Proofs.Ytaafkefgpgoepaa
set_option linter.unusedVariables false
open Go.RowKit Go.Shelf

/-- A request as cells, its commands told by where they lie. -/
def rqG (f : Fv) (n : Nat) (ca : Option Addr) (cc : Nat) (ta : Option Addr) (tc : Nat) (ka : Option Addr) (kc : Nat) : Array Value :=
  #[.slice ca n cc, .int .i64 f.dia, .string f.verb, .int .i64 f.code, .int .u32 f.opq, .bool f.quiet, .bool f.wcas, .string f.flags, .slice ta f.toks.length tc, .slice ka f.keys.length kc, .bool f.b64]
theorem rqG_of (r : Qv) (ca : Option Addr) (cc : Nat) (ta : Option Addr) (tc : Nat) (ka : Option Addr) (kc : Nat) : rqC r ca cc ta tc ka kc = rqG r.form r.cmds.length ca cc ta tc ka kc := rfl
/-- An answer as bytes. -/
def EncE (l : List UInt8) (w : World) (e : Ending) (w' : World) : Prop := ∃ a n cap, e = .returned (.slice a n cap) ∧ n ≤ 100000 ∧ Bu w' a n cap l ∧ w.grownBy w' none
theorem EncE.nil {w w' : World} (g : w.grownBy w' none) : EncE [] w (.returned (.slice none 0 0)) w' := ⟨none, 0, 0, rfl, Nat.zero_le _, bu_nil w', g⟩
/-- The blocks of an answer's walk: the request, the command, the result. -/
structure EB (w W : World) (q P K : Nat) (f : Fv) (n : Nat) (ca : Option Addr) (cc : Nat) (ta : Option Addr) (tc : Nat) (ka : Option Addr) (kc : Nat) (c : Cv) (va : Option Addr) (vc : Nat) (x : Rv) (ya : Option Addr) (yc : Nat) : Prop where
  gr : w.grownBy W none
  q : W.heap[q]? = some (.cells (rqG f n ca cc ta tc ka kc) 28 (0, 0))
  p : W.heap[P]? = some (.cells (cmC c va vc) 48 (0, 0))
  k : W.heap[K]? = some (.cells (rsC x ya yc) 46 (0, 0))
  v : Bu W ya x.val.length yc x.val
section
variable {w W W' : World} {q P K : Nat} {f : Fv} {n : Nat} {ca ta ka va ya : Option Addr} {cc tc kc vc yc : Nat} {c : Cv} {x : Rv}
theorem EB.on (h : EB w W q P K f n ca cc ta tc ka kc c va vc x ya yc) (g : W.grownBy W' none) : EB w W' q P K f n ca cc ta tc ka kc c va vc x ya yc :=
  ⟨gr_trans h.gr g, (g.block q (Array.getElem?_eq_some_iff.1 h.q).1 (by simp)).trans h.q, (g.block P (Array.getElem?_eq_some_iff.1 h.p).1 (by simp)).trans h.p, (g.block K (Array.getElem?_eq_some_iff.1 h.k).1 (by simp)).trans h.k, h.v.on (below_gr g)⟩
theorem cellE {p : Nat} {cs : Array Value} {t : TypeId} (h : W.heap[p]? = some (.cells cs t (0, 0))) (j : Nat) (v : Value) (hv : cs[j]? = some v) : W.cell? ⟨p, j, none⟩ = some v := by
  unfold World.cell?
  rw [h]
  exact hv
theorem EB.form (h : EB w W q P K f n ca cc ta tc ka kc c va vc x ya yc) : W.rangeAt q 1 (fmC f ta tc ka kc).toList := fun j v hv => by
  have hj : j < 10 := (List.getElem?_eq_some_iff.1 hv).1
  refine cellE h.q _ v ?_
  match j, hj with
  | 0, _ | 1, _ | 2, _ | 3, _ | 4, _ | 5, _ | 6, _ | 7, _ | 8, _ | 9, _ => exact hv
theorem fmE_size (f : Fv) (ta : Option Addr) (tc : Nat) (ka : Option Addr) (kc : Nat) : (Try.prog.info? 26).map (·.size) = some (fmC f ta tc ka kc).size := by
  have h : (Try.prog.info? 26).map (·.size) = some 10 := by kernel_rfl
  exact h
/-- The three blocks laid. -/
theorem eb_new (w V W5 W6 : World) (f : Fv) (n : Nat) (ca : Option Addr) (cc : Nat) (ta : Option Addr) (tc : Nat) (ka : Option Addr) (kc : Nat) (c : Cv) (va : Option Addr) (vc : Nat) (x : Rv) (ya : Option Addr) (yc : Nat) (hV : V = w.alloc (.cells (rqG f n ca cc ta tc ka kc) 28)) (h5 : W5 = V.alloc (.cells (cmC c va vc) 48)) (h6 : W6 = W5.alloc (.cells (rsC x ya yc) 46)) (hv : Bu w ya x.val.length yc x.val) : EB w W6 w.heap.size V.heap.size W5.heap.size f n ca cc ta tc ka kc c va vc x ya yc := by
  have g1 : w.grownBy V none := by rw [hV]; exact World.grownBy_alloc _ _ _
  have g2 : V.grownBy W5 none := by rw [h5]; exact World.grownBy_alloc _ _ _
  have g3 : W5.grownBy W6 none := by rw [h6]; exact World.grownBy_alloc _ _ _
  have n1 : V.heap[w.heap.size]? = some (.cells (rqG f n ca cc ta tc ka kc) 28 (0, 0)) := by rw [hV]; exact World.alloc_heap_new _ _
  have n2 : W5.heap[V.heap.size]? = some (.cells (cmC c va vc) 48 (0, 0)) := by rw [h5]; exact World.alloc_heap_new _ _
  have n3 : W6.heap[W5.heap.size]? = some (.cells (rsC x ya yc) 46 (0, 0)) := by rw [h6]; exact World.alloc_heap_new _ _
  exact ⟨gr_trans g1 (gr_trans g2 g3), ((gr_trans g2 g3).block _ (Array.getElem?_eq_some_iff.1 n1).1 (by simp)).trans n1, (g3.block _ (Array.getElem?_eq_some_iff.1 n2).1 (by simp)).trans n2, n3, hv.on (below_gr (gr_trans g1 (gr_trans g2 g3)))⟩
theorem rngE {b off : Nat} {l : List Value} (g : W.grownBy W' none) (h : W.rangeAt b off l) : W'.rangeAt b off l := fun j v hv => ((below_gr g).cell (World.block_lt_of_cell? W _ (h j v hv))).trans (h j v hv)
end
/-- An answer of its parts, told as bytes. -/
theorem rpack_E {w : World} {f : Fv} {ta ka : Option Addr} {tc kc : Nat} {xl v : List UInt8} {key : ByteArray} {xa va : Option Addr} {xn xc vn vc : Nat} {st cas : Int} (hx : Bu w xa xn xc xl) (hv : Bu w va vn vc v) (x1 : xn ≤ 255) (k1 : key.size ≤ 1000) (v1 : vn ≤ 2000) (s0 : 0 ≤ st) (s1 : st ≤ 132) (c0 : 0 ≤ cas) (c1 : cas < 18446744073709551616) (o0 : 0 ≤ f.opq) (o1 : f.opq < 4294967296) :
    Calls Try.prog 20 #[.agg (fmC f ta tc ka kc), .int .u16 st, .int .u64 cas, .slice xa xn xc, .string key, .slice va vn vc] w fun e w' => EncE (packA f.code f.opq st cas xl key.data.toList v) w e w' := by
  obtain ⟨sn, rfl⟩ : ∃ n : Nat, st = (n : Int) := ⟨st.toNat, by omega⟩
  obtain ⟨cn, rfl⟩ : ∃ n : Nat, cas = (n : Int) := ⟨cas.toNat, by omega⟩
  obtain ⟨on, ho⟩ : ∃ n : Nat, f.opq = (n : Int) := ⟨f.opq.toNat, by omega⟩
  have h := rpacket_any (w := w) (f := f) (ta := ta) (tc := tc) (ka := ka) (kc := kc) (st := sn) (cas := cn) (opq := on) hx hv x1 (Nat.le_trans k1 (by decide)) (Nat.le_trans v1 (by decide)) (by omega) (by omega) (by omega) ho
  rw [ho]
  refine h.mono fun e w' ⟨a, n, cap, e1, e2, e3, e4⟩ => ⟨a, n, cap, e1, by omega, e3, e4⟩
end Go.Proofs.Ytaafkefgpgoepaa

namespace Go.Proofs.Ytaafkefgpgoepaa
set_option linter.unusedVariables false
open Go.RowKit

theorem hush_loud (op s : Int) : hushA false op s = false := rfl
theorem hush_get {op s : Int} (h : op = 0 ∨ op = 1) : hushA true op s = decide (s = 1) := by
  unfold hushA
  rw [if_pos h, Bool.true_and]
theorem hush_other {op s : Int} (h : ¬ (op = 0 ∨ op = 1)) : hushA true op s = decide (codeN s = 0) := by
  unfold hushA
  rw [if_neg h, Bool.true_and]
section
variable {f : Fv} {c : Cv} {x : Rv}
theorem oneA_hush (h : hushA f.quiet c.op x.s = true) : oneA f c x = [] := by unfold oneA; rw [if_pos h]
theorem oneA_hit (h : hushA f.quiet c.op x.s = false) (hs : x.s = 0) : oneA f c x = packA f.code f.opq (codeN x.s) x.cas (byL (be x.fl.toNat 4)) (keyA f.code c.key).data.toList x.val := by
  unfold oneA
  rw [if_neg (by rw [h]; decide), if_pos hs]
theorem oneA_num (h : hushA f.quiet c.op x.s = false) (hs : x.s = 7) : oneA f c x = packA f.code f.opq (codeN x.s) x.cas [] [] (byL (be x.num.toNat 8)) := by
  unfold oneA
  rw [if_neg (by rw [h]; decide), if_neg (by omega), if_pos hs]
theorem oneA_put (h : hushA f.quiet c.op x.s = false) (hs : x.s = 2) : oneA f c x = packA f.code f.opq (codeN x.s) x.cas [] [] [] := by
  unfold oneA
  rw [if_neg (by rw [h]; decide), if_neg (by omega), if_neg (by omega), if_pos hs]
theorem oneA_ver (h : hushA f.quiet c.op x.s = false) (hs : x.s = 11) : oneA f c x = packA f.code f.opq (codeN x.s) 0 [] [] [49] := by
  unfold oneA
  rw [if_neg (by rw [h]; decide), if_neg (by omega), if_neg (by omega), if_neg (by omega), if_pos hs]
theorem oneA_bare (h : hushA f.quiet c.op x.s = false) (h0 : ¬ x.s = 0) (h7 : ¬ x.s = 7) (h2 : ¬ x.s = 2) (h11 : ¬ x.s = 11) : oneA f c x = packA f.code f.opq (codeN x.s) 0 [] [] [] := by
  unfold oneA
  rw [if_neg (by rw [h]; decide), if_neg h0, if_neg h7, if_neg h2, if_neg h11]
end
theorem stat_ways (s : Int) : s = 0 ∨ s = 7 ∨ s = 2 ∨ s = 11 ∨ (¬ s = 0 ∧ ¬ s = 7 ∧ ¬ s = 2 ∧ ¬ s = 11) := by omega
theorem code_ways (c : Int) : c = 12 ∨ c = 13 ∨ ¬ (c = 12 ∨ c = 13) := by omega
theorem keyA_yes {c : Int} {key : ByteArray} (h : c = 12 ∨ c = 13) (hk : key.size ≤ 1000) : keyA c key = key := by
  unfold keyA
  rw [if_pos h, if_neg (by omega)]
theorem keyA_no {c : Int} {key : ByteArray} (h : ¬ (c = 12 ∨ c = 13)) : keyA c key = ⟨#[]⟩ := by
  unfold keyA
  rw [if_neg h]
/-- What is told of the request and of its first result. -/
structure EncH (w : World) (f : Fv) (n m : Nat) (c : Cv) (x : Rv) (ca : Option Addr) (cb co : Nat) (va : Option Addr) (vc : Nat) (lb lo : Nat) (ya : Option Addr) (yc : Nat) : Prop where
  n0 : 0 < n
  m0 : 0 < m
  key : c.key.size ≤ 1000
  val : x.val.length ≤ 2000
  o0 : 0 ≤ f.opq
  o1 : f.opq < 4294967296
  ok : x.ok
  c_ : w.rangeAt cb co (cmC c va vc).toList
  x_ : w.rangeAt lb lo (rsC x ya yc).toList
  v_ : Bu w ya x.val.length yc x.val
end Go.Proofs.Ytaafkefgpgoepaa
